/- JChk, RefFixed, JSmall, ILive, ILaw, JEncode: in one text. -/
import Derived.Test.YtgajjphjkbnaeaaGreatQ4
import Derived.Test.YtgajjphjkbnaeaaGreatQ1
import Derived.Test.YtgajjphjkbnaeaaGreatQ46
import Derived.Test.YtgajjphjkbnaeaaGreatQ20
namespace Go.Proofs.YtgajjphjkbnaeaaGreat
open Go.RowKit
set_option linter.unusedVariables false
set_option maxHeartbeats 32000000
set_option maxRecDepth 100000
set_option linter.unusedSimpArgs false
theorem refCheck_m01 (w : World) (m l s : Int) (hm : m < 0) : Calls Tryz.prog 66 #[.agg #[.int .i64 1,.int .i64 m,.int .i64 l,.int .i64 s]] w fun e w' => e = .returned (.int .i64 11) ∧ Below w.heap.size w w':=by
 go_enter Tryz.func66,Tryz.ntmps66
 go_wp2
 go_ret
 exact ⟨rfl,(Below.refl _ w).alloc (Nat.le_refl _) _⟩
theorem refCheck_m02 (w : World) (m l s : Int) (hm : m < 0) : Calls Tryz.prog 66 #[.agg #[.int .i64 2,.int .i64 m,.int .i64 l,.int .i64 s]] w fun e w' => e = .returned (.int .i64 11) ∧ Below w.heap.size w w':=by
 go_enter Tryz.func66,Tryz.ntmps66
 go_wp2
 go_ret
 exact ⟨rfl,(Below.refl _ w).alloc (Nat.le_refl _) _⟩
theorem refCheck_m0k (w : World) (k m l s : Int) (hm : m < 0) (h1 : k ≠ 1) (h2 : k ≠ 2) : Calls Tryz.prog 66 #[.agg #[.int .i64 k,.int .i64 m,.int .i64 l,.int .i64 s]] w fun e w' => e = .returned (.int .i64 11) ∧ Below w.heap.size w w':=by
 go_enter Tryz.func66,Tryz.ntmps66
 go_wp2
 go_ret
 exact ⟨rfl,(Below.refl _ w).alloc (Nat.le_refl _) _⟩
theorem refCheck_m11 (w : World) (m l s : Int) (hm : 511 < m) : Calls Tryz.prog 66 #[.agg #[.int .i64 1,.int .i64 m,.int .i64 l,.int .i64 s]] w fun e w' => e = .returned (.int .i64 11) ∧ Below w.heap.size w w':=by
 go_enter Tryz.func66,Tryz.ntmps66
 go_wp2
 go_ret
 exact ⟨rfl,(Below.refl _ w).alloc (Nat.le_refl _) _⟩
theorem refCheck_m12 (w : World) (m l s : Int) (hm : 511 < m) : Calls Tryz.prog 66 #[.agg #[.int .i64 2,.int .i64 m,.int .i64 l,.int .i64 s]] w fun e w' => e = .returned (.int .i64 11) ∧ Below w.heap.size w w':=by
 go_enter Tryz.func66,Tryz.ntmps66
 go_wp2
 go_ret
 exact ⟨rfl,(Below.refl _ w).alloc (Nat.le_refl _) _⟩
theorem refCheck_m1k (w : World) (k m l s : Int) (hm : 511 < m) (h1 : k ≠ 1) (h2 : k ≠ 2) : Calls Tryz.prog 66 #[.agg #[.int .i64 k,.int .i64 m,.int .i64 l,.int .i64 s]] w fun e w' => e = .returned (.int .i64 11) ∧ Below w.heap.size w w':=by
 go_enter Tryz.func66,Tryz.ntmps66
 go_wp2
 go_ret
 exact ⟨rfl,(Below.refl _ w).alloc (Nat.le_refl _) _⟩
theorem refCheck_a (w : World) (m l s : Int) (hm0 : 0 ≤ m) (hm1 : m ≤ 511) (hl : l < 1) : Calls Tryz.prog 66 #[.agg #[.int .i64 1,.int .i64 m,.int .i64 l,.int .i64 s]] w fun e w' => e = .returned (.int .i64 11) ∧ Below w.heap.size w w':=by
 go_enter Tryz.func66,Tryz.ntmps66
 go_wp2
 go_ret
 exact ⟨rfl,(Below.refl _ w).alloc (Nat.le_refl _) _⟩
theorem refCheck_b (w : World) (m l s : Int) (hm0 : 0 ≤ m) (hm1 : m ≤ 511) (hl0 : 1 ≤ l) (hl : 15 < l) : Calls Tryz.prog 66 #[.agg #[.int .i64 1,.int .i64 m,.int .i64 l,.int .i64 s]] w fun e w' => e = .returned (.int .i64 11) ∧ Below w.heap.size w w':=by
 go_enter Tryz.func66,Tryz.ntmps66
 go_wp2
 go_ret
 exact ⟨rfl,(Below.refl _ w).alloc (Nat.le_refl _) _⟩
theorem refCheck_c (w : World) (m l s : Int) (hm0 : 0 ≤ m) (hm1 : m ≤ 511) (hl0 : 1 ≤ l) (hl1 : l ≤ 15) (hs : s < 0) : Calls Tryz.prog 66 #[.agg #[.int .i64 1,.int .i64 m,.int .i64 l,.int .i64 s]] w fun e w' => e = .returned (.int .i64 11) ∧ Below w.heap.size w w':=by
 go_enter Tryz.func66,Tryz.ntmps66
 go_wp2
 go_ret
 exact ⟨rfl,(Below.refl _ w).alloc (Nat.le_refl _) _⟩
theorem refCheck_d (w : World) (m l s : Int) (hm0 : 0 ≤ m) (hm1 : m ≤ 511) (hl0 : 1 ≤ l) (hl1 : l ≤ 15) (hs0 : 0 ≤ s) (hs : 512 < s) : Calls Tryz.prog 66 #[.agg #[.int .i64 1,.int .i64 m,.int .i64 l,.int .i64 s]] w fun e w' => e = .returned (.int .i64 11) ∧ Below w.heap.size w w':=by
 have hsd : decide (s ≤ 512) = false:=decide_eq_false (by omega)
 go_enter Tryz.func66,Tryz.ntmps66
 go_wp2
 go_ret
 exact ⟨rfl,(Below.refl _ w).alloc (Nat.le_refl _) _⟩
theorem refCheck_e (w : World) (m l s : Int) (hm0 : 0 ≤ m) (hm1 : m ≤ 511) (hl0 : 1 ≤ l) (hl1 : l ≤ 15) (hs0 : 0 ≤ s) (hs : s ≤ 512) : Calls Tryz.prog 66 #[.agg #[.int .i64 1,.int .i64 m,.int .i64 l,.int .i64 s]] w fun e w' => e = .returned (.int .i64 0) ∧ Below w.heap.size w w':=by
 go_enter Tryz.func66,Tryz.ntmps66
 go_wp2
 go_ret
 exact ⟨rfl,(Below.refl _ w).alloc (Nat.le_refl _) _⟩
theorem refCheck_f (w : World) (m l s : Int) (hm0 : 0 ≤ m) (hm1 : m ≤ 511) (hl : l ≠ 1) : Calls Tryz.prog 66 #[.agg #[.int .i64 2,.int .i64 m,.int .i64 l,.int .i64 s]] w fun e w' => e = .returned (.int .i64 11) ∧ Below w.heap.size w w':=by
 go_enter Tryz.func66,Tryz.ntmps66
 go_wp2
 go_ret
 exact ⟨rfl,(Below.refl _ w).alloc (Nat.le_refl _) _⟩
theorem refCheck_g (w : World) (m l s : Int) (hm0 : 0 ≤ m) (hm1 : m ≤ 511) (hl : l = 1) (hs : s ≠ 0) : Calls Tryz.prog 66 #[.agg #[.int .i64 2,.int .i64 m,.int .i64 l,.int .i64 s]] w fun e w' => e = .returned (.int .i64 11) ∧ Below w.heap.size w w':=by
 have hsb : (s == 0) = false:=by rw [beq_eq_false_iff_ne]; exact hs
 go_enter Tryz.func66,Tryz.ntmps66
 go_wp2
 go_ret
 exact ⟨rfl,(Below.refl _ w).alloc (Nat.le_refl _) _⟩
theorem refCheck_h (w : World) (m l s : Int) (hm0 : 0 ≤ m) (hm1 : m ≤ 511) (hl : l = 1) (hs : s = 0) : Calls Tryz.prog 66 #[.agg #[.int .i64 2,.int .i64 m,.int .i64 l,.int .i64 s]] w fun e w' => e = .returned (.int .i64 0) ∧ Below w.heap.size w w':=by
 go_enter Tryz.func66,Tryz.ntmps66
 go_wp2
 go_ret
 exact ⟨rfl,(Below.refl _ w).alloc (Nat.le_refl _) _⟩
theorem refCheck_i (w : World) (k m l s : Int) (hm0 : 0 ≤ m) (hm1 : m ≤ 511) (h1 : k ≠ 1) (h2 : k ≠ 2) : Calls Tryz.prog 66 #[.agg #[.int .i64 k,.int .i64 m,.int .i64 l,.int .i64 s]] w fun e w' => e = .returned (.int .i64 11) ∧ Below w.heap.size w w':=by
 go_enter Tryz.func66,Tryz.ntmps66
 go_wp2
 go_ret
 exact ⟨rfl,(Below.refl _ w).alloc (Nat.le_refl _) _⟩
theorem inoE_is (k m l s : Int) : inoE k m l s = if (0 ≤ m ∧ m ≤ 511) ∧ ((k = 1 ∧ (1 ≤ l ∧ l ≤ 15) ∧ 0 ≤ s ∧ s ≤ 512) ∨ (k = 2 ∧ l = 1 ∧ s = 0)) then 0 else 11:=by
 unfold inoE inoOk
 by_cases h1 : k = 1
 ·subst h1
  simp [inB]
 ·by_cases h2 : k = 2
  ·subst h2
   simp [inB]
  ·simp [inB,h1,h2]
theorem irefCheck_any (w : World) (k m l s : Int) : Calls Tryz.prog 66 #[.agg #[.int .i64 k,.int .i64 m,.int .i64 l,.int .i64 s]] w fun e w' => e = .returned (.int .i64 (inoE k m l s)) ∧ Below w.heap.size w w':=by
 rw [inoE_is]
 by_cases h1 : k = 1
 ·subst h1
  by_cases a : m < 0
  ·rw [if_neg (by omega)]; exact refCheck_m01 w m l s a
  ·by_cases b : 511 < m
   ·rw [if_neg (by omega)]; exact refCheck_m11 w m l s b
   ·by_cases c : l < 1
    ·rw [if_neg (by omega)]; exact refCheck_a w m l s (by omega) (by omega) c
    ·by_cases d : 15 < l
     ·rw [if_neg (by omega)]; exact refCheck_b w m l s (by omega) (by omega) (by omega) d
     ·by_cases e : s < 0
      ·rw [if_neg (by omega)]; exact refCheck_c w m l s (by omega) (by omega) (by omega) (by omega) e
      ·by_cases f : 512 < s
       ·rw [if_neg (by omega)]; exact refCheck_d w m l s (by omega) (by omega) (by omega) (by omega) (by omega) f
       ·rw [if_pos (by omega)]; exact refCheck_e w m l s (by omega) (by omega) (by omega) (by omega) (by omega) (by omega)
 ·by_cases h2 : k = 2
  ·subst h2
   by_cases a : m < 0
   ·rw [if_neg (by omega)]; exact refCheck_m02 w m l s a
   ·by_cases b : 511 < m
    ·rw [if_neg (by omega)]; exact refCheck_m12 w m l s b
    ·by_cases c : l = 1
     ·by_cases d : s = 0
      ·rw [if_pos (by omega)]; exact refCheck_h w m l s (by omega) (by omega) c d
      ·rw [if_neg (by omega)]; exact refCheck_g w m l s (by omega) (by omega) c d
     ·rw [if_neg (by omega)]; exact refCheck_f w m l s (by omega) (by omega) c
  ·rw [if_neg (by omega)]
   by_cases a : m < 0
   ·exact refCheck_m0k w k m l s a h1 h2
   ·by_cases b : 511 < m
    ·exact refCheck_m1k w k m l s b h1 h2
    ·exact refCheck_i w k m l s (by omega) (by omega) h1 h2
theorem refFixed_arg (w : World) (n k : Int) (h : k < 1 ∨ 8 < k) : Calls Tryz.prog 83 #[.int .u64 n,.int .i64 k] w fun e w' => e = .returned (.tuple #[.slice none 0 0,.int .i64 1]) ∧ w = w':=by
 rcases h with h | h
 ·go_enter Tryz.func83,Tryz.ntmps83
  go_wp2
  go_ret2
  exact ⟨rfl,rfl⟩
 ·have h' : ¬ k < 1:=by omega
  go_enter Tryz.func83,Tryz.ntmps83
  go_wp2
  go_ret2
  exact ⟨rfl,rfl⟩
theorem refFixed_in (w : World) (N k : Nat) (h1 : 1 ≤ k) (h2 : k ≤ 8) (hN : N < 2 ^ 64) : Calls Tryz.prog 83 #[.int .u64 N,.int .i64 k] w fun e w' =>
  w' = w.alloc (.cells ((fixB N k).map (Value.int .u8)).toArray 5) ∧
  (((N : Int) / 2 ^ (8 * k) != 0) = true ∧ e = .returned (.tuple #[.slice none 0 0,.int .i64 2]) ∨ (N : Int) / 2 ^ (8 * k) = 0 ∧ e = .returned (.tuple #[.slice (some ⟨w.heap.size,0,none⟩) k k,.int .i64 0])):=by
 have hmk:=make_bytes w k k rfl (by omega)
 rw [show (List.replicate k (Value.int .u8 0)).toArray = ((fixRow N k 0).map (Value.int .u8)).toArray from by rw [fixRow_zero]; simp] at hmk
 have hk1 : ¬ (k : Int) < 1:=by omega
 have hk2 : ¬ 8 < (k : Int):=by omega
 go_enter Tryz.func83,Tryz.ntmps83
 go_wp2
 go_loopw [0,7] (fun s t wr => ∃ i : Nat,i ≤ k ∧ t = .int .i64 ((k : Int) - 1 - i) ∧ s = .int .u64 ((N : Int) / 2 ^ (8 * i)) ∧ wr = w.alloc (.cells ((fixRow N k i).map (Value.int .u8)).toArray 5)) (fun _ t _ => (intOf t + 1).toNat)
 case atStart => exact ⟨0,Nat.zero_le _,by go_num,by simp,rfl⟩
 case round =>
  obtain ⟨i,hi,rfl,rfl,rfl⟩:=hrel
  clear hmk
  by_cases hlt : i < k
  ·obtain ⟨M,hM⟩ : ∃ M,M = ((fixRow N k i).map (Value.int .u8)).toArray:=⟨_,rfl⟩
   obtain ⟨z,hz⟩ : ∃ z,M[k - 1 - i]? = some (.int .u8 z):=by
    refine ⟨(fixRow N k i)[k - 1 - i]'(by rw [fixRow_length]; omega),?_⟩
    rw [hM,List.getElem?_toArray,List.getElem?_map,List.getElem?_eq_getElem (by rw [fixRow_length]; omega)]
    rfl
   have HS : Hid (M.setIfInBounds (k - 1 - i) (.int .u8 ((N : Int) / 2 ^ (8 * i) % 256)) = ((fixRow N k (i + 1)).map (Value.int .u8)).toArray):=by
    show _ = _
    rw [hM,← fixRow_set N k i hlt]
    apply Array.ext'
    rw [Array.toList_setIfInBounds,List.map_set]
    simp [dig]
   rw [← hM]
   clear hM
   go_wp2
   go_roundw
   case rel => exact ⟨i + 1,by omega,by go_num,by rw [div_step N i hN],by rw [mod_step,HS.out]⟩
   case measure => simp [intOf]; omega
  ·obtain rfl : i = k:=by omega
   have hq0 : (0 : Int) ≤ (N : Int) / 2 ^ (8 * i):=Int.ediv_nonneg (by omega) (by exact Int.le_of_lt (Int.pow_pos (by decide)))
   by_cases hq : (0 : Int) < (N : Int) / 2 ^ (8 * i)
   ·have HQ : Hid (((N : Int) / 2 ^ (8 * i) != 0) = true):=bne_iff_ne.2 (by omega)
    go_wp2
    go_ret2
    exact ⟨by rw [fixRow_all],.inl ⟨HQ.out,rfl⟩⟩
   ·have HQ : Hid (((N : Int) / 2 ^ (8 * i) != 0) = false):=bne_eq_false_iff_eq.2 (by omega)
    go_wp2
    go_ret2
    exact ⟨by rw [fixRow_all],.inr ⟨bne_eq_false_iff_eq.1 HQ.out,rfl⟩⟩
theorem refFixed_any (w : World) (n k : Int) (h0 : 0 ≤ n) (h1 : n < 2 ^ 64) : Calls Tryz.prog 83 #[.int .u64 n,.int .i64 k] w fun e w' =>
  ∃ v,e = .returned (.tuple #[v,.int .i64 (fixE n k)]) ∧ Own w' w.heap.size v (fixL n k) ∧ Below w.heap.size w w':=by
 by_cases hk : k < 1 ∨ 8 < k
 ·have e1 : fixE n k = 1:=if_pos hk
  have e2 : fixL n k = []:=by unfold fixL; rw [e1]; rfl
  rw [e1,e2]
  refine (refFixed_arg w n k hk).mono ?_
  rintro e w' ⟨rfl,rfl⟩
  exact ⟨_,rfl,Own.nil _ _,Below.refl _ _⟩
 ·obtain ⟨N,rfl⟩:=Int.eq_ofNat_of_zero_le h0
  obtain ⟨K,rfl⟩:=Int.eq_ofNat_of_zero_le (show 0 ≤ k by omega)
  have hN : N < 2 ^ 64:=by omega
  refine (refFixed_in w N K (by omega) (by omega) hN).mono ?_
  rintro e w' ⟨rfl,⟨hl,rfl⟩ | ⟨hl,rfl⟩⟩
  ·have e1 : fixE N K = 2:=by unfold fixE; rw [if_neg hk,Int.toNat_natCast,if_pos hl]
   have e2 : fixL N K = []:=by unfold fixL; rw [e1]; rfl
   rw [e1,e2]
   exact ⟨_,rfl,Own.nil _ _,(Below.refl _ _).alloc (Nat.le_refl _) _⟩
  ·have e1 : fixE N K = 0:=by unfold fixE; rw [if_neg hk,Int.toNat_natCast,if_neg (by rw [hl]; decide)]
   have e2 : fixL N K = fixB N K:=by unfold fixL; rw [e1]; rfl
   rw [e1,e2]
   exact ⟨_,rfl,Own.laid (fixB_length N K).symm (by unfold maxLen; omega) rfl,(Below.refl _ _).alloc (Nat.le_refl _) _⟩
theorem refFix_any (w : World) (B : Nat) (v : Value) (xs : List Int) (n : Int) (k : Nat) (ho : Own w B v xs) (hB : B ≤ w.heap.size) (hx : xs.length ≤ 1000) (h1 : 1 ≤ k) (h2 : k ≤ 8) (h0 : 0 ≤ n) (hn : n < 2 ^ (8 * k)) (h63 : n < 2 ^ 63) :
  Calls Tryz.prog 67 #[v,.int .i64 n,.int .i64 k] w fun e w' => ∃ v',e = .returned v' ∧ Own w' B v' (xs ++ fixB n.toNat k) ∧ Below B w w':=by
 have hL:=fixL_in n k h1 h2 h0 hn
 have HW : IntKind.u64.wrap n = n:=by rw [IntKind.wrap_u64]; omega
 go_enter Tryz.func67,Tryz.ntmps67
 go_wp2_with fail
 refine (refFixed_any _ n k h0 (by omega)).mono ?_
 rintro e w1 ⟨v1,rfl,ho1,hb1⟩
 rw [hL] at ho1
 have ho':=ho.below hb1
 have hsz:=hb1.size
 go_wp2_with (at_builtin; refine wpList_append_rd rfl _ _ rfl B _ _ rfl ho' _ _ rfl ho1.rd ?c1 ?c2 ?_)
 case c1 => rw [fixB_length]; omega
 case c2 => omega
 intro v3 w3 ho3 hg3
 go_wp2
 go_ret
 exact ⟨_,rfl,ho3,below_grown (hb1.mono hB) (by omega) ho' hg3⟩
theorem iloadG {ops : Array Oper} {rest : List Oper} {o : Oper} {a : Act} {w : World} {Q : Exit → Act → World → Prop} (hw : Region.wanted o (yielded ops a.tmps) = true) (ty : TypeId) (x : Operand) (ho : o.op = .load ty x)
  (q : Addr) (hx : a.eval x = .pointer (some q)) (v : Value) (hl : (Instr.loadAt ty (.pointer (some q))).run Tryz.prog w = .ok v w)
  (h : wpList Tryz.prog ops Q rest (a.put o.dst v) w) : wpList Tryz.prog ops Q (o :: rest) a w :=
 BigFrame.wpList_want hw fun K hK => by
  unfold Oper.wp execOp
  simp only [ho,hx,hl,Sem.run_bind,Sem.run_pure,Result.andThen_ok]
  exact hK _ _ h
structure IChAt (w : World) (g : Nat) (b : List Int) : Prop where
 row : w.heap[g]? = some (.cells (bytesV b) 90 (0,0))
theorem IChAt.lt {w : World} {g : Nat} {b : List Int} (h : IChAt w g b) : g < w.heap.size:=(Array.getElem?_eq_some_iff.1 h.row).1
theorem IChAt.below {w w' : World} {g : Nat} {b : List Int} (h : IChAt w g b) (hb : Below w.heap.size w w') : IChAt w' g b:=⟨(hb.block g h.lt).trans h.row⟩
theorem IChAt.load {w : World} {g : Nat} {b : List Int} (h : IChAt w g b) (hb : b.length = 32) : (Instr.loadAt 90 (.pointer (some ⟨g,0,none⟩))).run Tryz.prog w = .ok (.agg (bytesV b)) w:=by
 have hl:=run_loadVar_row (P:=Tryz.prog) w g _ 90 (bytesV b) _ _ h.row Tryz.underlying90 rfl (by rw [bytesV_size,hb]; exact size_chunk)
 simp only [Instr.loadAt,Instr.sureAddr,Sem.run_bind,Sem.run_pure,Result.andThen_ok,hl]
structure InAt (w : World) (g : Nat) (k m l s : Int) : Prop where
 row : w.heap[g]? = some (.cells #[.int .i64 k,.int .i64 m,.int .i64 l,.int .i64 s] 41 (0,0))
theorem InAt.lt {w : World} {g : Nat} {k m l s : Int} (h : InAt w g k m l s) : g < w.heap.size:=(Array.getElem?_eq_some_iff.1 h.row).1
theorem InAt.below {w w' : World} {g : Nat} {k m l s : Int} (h : InAt w g k m l s) (hb : Below w.heap.size w w') : InAt w' g k m l s:=⟨(hb.block g h.lt).trans h.row⟩
theorem InAt.load {w : World} {g : Nat} {k m l s : Int} (h : InAt w g k m l s) : (Instr.loadAt 41 (.pointer (some ⟨g,0,none⟩))).run Tryz.prog w = .ok (.agg #[.int .i64 k,.int .i64 m,.int .i64 l,.int .i64 s]) w:=by
 have hl:=run_loadVar_row (P:=Tryz.prog) w g _ 41 _ _ _ h.row Tryz.underlying41 rfl size_inode
 simp only [Instr.loadAt,Instr.sureAddr,Sem.run_bind,Sem.run_pure,Result.andThen_ok,hl]
theorem size_itemR : (Tryz.prog.info? 92).map (·.size) = some 37:=by kernel_rfl
theorem zeroItemR (w : World) : (zeroValue 92).run Tryz.prog w = .ok (.agg (itC it0)) w:=by
 have h : (Tryz.prog.info? 92).map (fun i => (i.zero,i.size)) = some (some (.agg (itC it0)),37):=by kernel_rfl
 exact (zero_of_info h).1 w
theorem wpList_storeR {w : World} {ops : Array Oper} {rest : List Oper} {o : Oper} {a : Act} {Q : Exit → Act → World → Prop} (hg : o.guard = none) (x y : Operand) (ho : o.op = .store 92 x y)
  (g : Nat) (z old : It) (hx : a.eval x = .pointer (some ⟨g,0,none⟩)) (hy : a.eval y = .agg (itC z)) (hz : z.bytes.length = 32) (hold : old.bytes.length = 32) (hat : ItAt 92 w g old)
  (h : wpList Tryz.prog ops Q rest (a.put o.dst undef) (w.setRow g (itC z))) : wpList Tryz.prog ops Q (o :: rest) a w :=
 wpList_store_row hg 92 x y ho g (itC z) hx hy 92 (itC old) hat.row (by rw [itC_size hz]; exact size_itemR) (by rw [itC_size hz,itC_size hold]) (one_item z) h
theorem ItAt.loadR {w : World} {g : Nat} {x : It} (h : ItAt 92 w g x) (hx : x.bytes.length = 32) : (Instr.loadAt 92 (.pointer (some ⟨g,0,none⟩))).run Tryz.prog w = .ok (.agg (itC x)) w:=by
 have hl:=run_loadVar_row (P:=Tryz.prog) w g _ 92 (itC x) _ _ h.row Tryz.underlying92 rfl (by rw [itC_size hx]; exact size_itemR)
 simp only [Instr.loadAt,Instr.sureAddr,Sem.run_bind,Sem.run_pure,Result.andThen_ok,hl]
theorem ItAt.loadI {T : TypeId} {w : World} {g : Nat} {x : It} (h : ItAt T w g x) : (Instr.loadAt 41 (.pointer (some ⟨g,0,none⟩))).run Tryz.prog w = .ok (.agg #[.int .i64 x.kind,.int .i64 x.mode,.int .i64 x.links,.int .i64 x.size]) w :=
 run_loadAt_mid w g 0 41 _ _ h.rangeI Tryz.underlying41 rfl size_inode
theorem ItAt.loadC {T : TypeId} {w : World} {g : Nat} {x : It} (h : ItAt T w g x) (hx : x.bytes.length = 32) : (Instr.loadAt 90 (.pointer (some ⟨g,5,none⟩))).run Tryz.prog w = .ok (.agg (bytesV x.bytes)) w :=
 run_loadAt_mid w g 5 90 _ _ h.range Tryz.underlying90 rfl (by rw [List.length_map,hx]; exact size_chunk)
theorem neq_itemsR (w : World) {x y : It} (hx : x.bytes.length = 32) (hy : y.bytes.length = 32) : (binOp .neq 92 (.agg (itC x)) (.agg (itC y))).run Tryz.prog w = .ok (.bool (!itEq x y)) w:=by
 rw [run_neq_struct,equal_items _ (by kernel_rfl) (by kernel_rfl) (by kernel_rfl) w 9997 hx hy]
 rfl
theorem itEq_comm (x y : It) : itEq x y = itEq y x:=by
 rw [Bool.eq_iff_iff,itEq_iff,itEq_iff]
 exact eq_comm
def setMany (cs : Array Value) : Nat → List Value → Array Value
 | _,[] => cs
 | o,v :: r => setMany (cs.setIfInBounds o v) (o + 1) r
theorem heap_setCells (g : Nat) (t : TypeId) : ∀ (vs : List Value) (o : Nat) (w : World) (cs : Array Value),w.heap[g]? = some (.cells cs t (0,0)) → (w.setCells g o vs).heap[g]? = some (.cells (setMany cs o vs) t (0,0))
 | [],_,_,_,h => h
 | v :: r,o,w,cs,h => heap_setCells g t r (o + 1) _ _ (heap_setCell_same w g o cs t v h)
theorem below_setCells {B : Nat} {w0 : World} {g : Nat} (hg : B ≤ g) : ∀ (vs : List Value) (o : Nat) (w : World),Below B w0 w → Below B w0 (w.setCells g o vs)
 | [],_,_,h => h
 | v :: r,o,w,h => below_setCells hg r (o + 1) _ (h.setCell hg v)
theorem ItAt.there {T : TypeId} {w : World} {g : Nat} {x : It} (h : ItAt T w g x) (hx : x.bytes.length = 32) (o n : Nat) (hn : o + n ≤ 37) : w.there g o n:=by
 intro j hj
 refine ⟨?_,by simp [World.frozen?,h.row]⟩
 rw [cell_of_row w g (o + j) _ _ (0,0) h.row,Array.getElem?_eq_getElem (by rw [itC_size hx]; omega)]
 rfl
theorem ItAt.putI {T : TypeId} {w : World} {g : Nat} {x : It} (h : ItAt T w g x) (hx : x.bytes.length = 32) (k m l s : Int) : ItAt T (w.setCells g 0 [.int .i64 k,.int .i64 m,.int .i64 l,.int .i64 s]) g ⟨k,m,l,s,x.lead,x.bytes⟩:=by
 have:=heap_setCells g T [.int .i64 k,.int .i64 m,.int .i64 l,.int .i64 s] 0 w _ h.row
 exact ⟨this⟩
theorem one_ino (k m l s : Int) : (#[Value.int .i64 k,.int .i64 m,.int .i64 l,.int .i64 s]).all (·.oneCell') = true:=by simp [Value.oneCell']
theorem fixB_one (N : Nat) : fixB N 1 = [((N % 256 : Nat) : Int)]:=by simp [fixB,dig]
theorem ItAt.fr {T : TypeId} {w : World} {g : Nat} {x : It} (h : ItAt T w g x) (j : Nat) : w.frozen? ⟨g,j,none⟩ = false:=by simp [World.frozen?,h.row]
theorem refEnc_1c (w : World) (x : It) (hx : ItOk x) (h1 : itEq (giveI 1 x) x = true) (h2 : standsB 1 x = true) : Calls Tryz.prog 43 #[.int .i64 1,.agg (itC x)] w fun e w' => e = .returned (.tuple #[.string (strOfNums (wrL 1 x)),.int .i64 0]) ∧ Below w.heap.size w w':=by
 obtain ⟨w1,hw1⟩ : ∃ w1,w.alloc (.cells (itC x) 92) = w1:=⟨_,rfl⟩
 have hb1 : Below w.heap.size w w1:=by rw [← hw1]; exact (Below.refl _ w).alloc (Nat.le_refl _) _
 have hx1 : ItAt 92 w1 w.heap.size x:=by rw [← hw1]; exact ItAt.laid _ w x
 obtain ⟨w2,hw2⟩ : ∃ w2,w1.alloc (.cells (itC it0) 92) = w2:=⟨_,rfl⟩
 have hb2 : Below w1.heap.size w1 w2:=by rw [← hw2]; exact (Below.refl _ w1).alloc (Nat.le_refl _) _
 have hy2 : ItAt 92 w2 w1.heap.size it0:=by rw [← hw2]; exact ItAt.laid _ w1 it0
 obtain ⟨w3,hw3⟩ : ∃ w3,w2.setRow w1.heap.size (itC it0) = w3:=⟨_,rfl⟩
 have hy3 : ItAt 92 w3 w1.heap.size it0:=by rw [← hw3]; exact hy2.setRow _
 have hb3 : Below w1.heap.size w1 w3:=by rw [← hw3]; exact below_setRow hb2 (Nat.le_refl _) _
 have hx3:=hx1.below hb3
 have hB3 : Below w.heap.size w w3:=thenB hb1 hb3
 have hz:=zeroItemR
 have HX : Hid (x.bytes.length = 32):=hx.ch.1
 have hlt1 : w.heap.size < w1.heap.size:=hx1.lt
 obtain ⟨k,m,l,s,t,b⟩:=x
 obtain ⟨w4,hw4⟩ : ∃ w4,w3.setCells w1.heap.size 0 [.int .i64 k,.int .i64 m,.int .i64 l,.int .i64 s] = w4:=⟨_,rfl⟩
 have hb4 : Below w1.heap.size w1 w4:=by rw [← hw4]; exact below_setCells (Nat.le_refl _) _ _ _ hb3
 have hy4 : ItAt 92 w4 w1.heap.size ⟨k,m,l,s,0,zeroC⟩:=by rw [← hw4]; exact hy3.putI ch_zero.1 k m l s
 have hx4:=hx1.below hb4
 have hB4 : Below w.heap.size w w4:=thenB hb1 hb4
 have hth:=hy3.there ch_zero.1 0 4 (by omega)
 have LI : Hid _:=hx3.loadI
 have L3 : Hid _:=hx4.loadR hx.ch.1
 have L6 : Hid _:=hy4.loadR ch_zero.1
 have LI4 : Hid _:=hx4.loadI
 have HT : Hid (w3.there w1.heap.size 0 4):=hth
 rw [giveI_1] at h1
 have hck : ∀ W,Calls Tryz.prog 66 #[.agg #[.int .i64 k,.int .i64 m,.int .i64 l,.int .i64 s]] W fun e w' => e = .returned (.int .i64 0) ∧ Below W.heap.size W w':=fun W => by
  have:=irefCheck_any W k m l s
  rwa [inoE_0 h2] at this
 obtain ⟨⟨k0,k1⟩,⟨m0,m1⟩,⟨l0,l1⟩,s0,s1⟩:=inoOk_bounds (show inoOk k m l s = true from h2)
 have HR : Hid (wrL 1 ⟨k,m,l,s,t,b⟩ = [k] ++ fixB m.toNat 2 ++ [l] ++ fixB s.toNat 2):=by
  unfold Hid
  rw [wrL_1]
  unfold recL
  dsimp only
  rw [show fixB k.toNat 1 = [k] from by rw [fixB_one]; congr 1; omega,show fixB l.toNat 1 = [l] from by rw [fixB_one]; congr 1; omega]
 have wk : IntKind.u8.wrap k = k:=by rw [IntKind.wrap_u8]; omega
 have wl : IntKind.u8.wrap l = l:=by rw [IntKind.wrap_u8]; omega
 have hne : ∀ W,(binOp .neq 92 (.agg (itC ⟨k,m,l,s,t,b⟩)) (.agg (itC ⟨k,m,l,s,0,zeroC⟩))).run Tryz.prog W = .ok (.bool false) W:=fun W => by rw [neq_itemsR W (x:=⟨k,m,l,s,t,b⟩) (y:=⟨k,m,l,s,0,zeroC⟩) HX.out ch_zero.1,itEq_comm,h1]; rfl
 clear hx1 hx3 hy3 hb2 hb3 hth
 clear h2
 go_enter Tryz.func43,Tryz.ntmps43
 go_wp2_with (first
  | (refine wpList_storeR rfl _ _ rfl w1.heap.size it0 it0 rfl rfl ch_zero.1 ch_zero.1 hy2 ?_)
  | (refine iloadG rfl 41 _ rfl _ rfl _ LI.out ?_)
  | (refine wpList_store_mid rfl 41 _ _ rfl w1.heap.size 0 #[.int .i64 k,.int .i64 m,.int .i64 l,.int .i64 s] rfl rfl HT.out size_inode (one_ino k m l s) ?_; rw [show (#[Value.int .i64 k,.int .i64 m,.int .i64 l,.int .i64 s]).toList = [.int .i64 k,.int .i64 m,.int .i64 l,.int .i64 s] from rfl,hw4])
  | (refine iloadG rfl 92 _ rfl _ rfl _ L3.out ?_)
  | (refine iloadG rfl 92 _ rfl _ rfl _ L6.out ?_)
  | (refine iloadG rfl 41 _ rfl _ rfl _ LI4.out ?_))
 refine (hck _).mono ?_
 rintro e w5 ⟨rfl,hb5⟩
 have hB5:=thenB hB4 hb5
 have hx5:=hx4.below hb5
 obtain ⟨w6,hw6⟩ : ∃ w6,w5.alloc (.cells #[.int .u8 k] 5) = w6:=⟨_,rfl⟩
 have hb6 : Below w5.heap.size w5 w6:=by rw [← hw6]; exact (Below.refl _ w5).alloc (Nat.le_refl _) _
 have ho6 : Own w6 w5.heap.size (.slice (some ⟨w5.heap.size,0,none⟩) 1 1) [k]:=by rw [← hw6]; exact Own.laid (cs:=#[.int .u8 k]) rfl (by decide) rfl
 have hx6:=hx5.below hb6
 have q0:=hx5.c0
 have q1:=hx6.c1
 have hsz6:=hb6.size
 clear hne LI L3 L6 LI4 HT hck hw1 hw2 hw3 hw4 hz
 go_wp2_with fail
 refine (refFix_any w6 w5.heap.size _ [k] m 2 ho6 hsz6 (by simp) (by omega) (by omega) m0 (by omega) (by omega)).mono ?_
 rintro e w7 ⟨v7,rfl,ho7,hb7⟩
 have hb57 : Below w5.heap.size w5 w7:=hb6.trans hb7
 have hx7:=hx5.below hb57
 have q2:=hx7.c2
 obtain ⟨w8,hw8⟩ : ∃ w8,w7.alloc (.cells #[.int .u8 l] 5) = w8:=⟨_,rfl⟩
 have hb8 : Below w7.heap.size w7 w8:=by rw [← hw8]; exact (Below.refl _ w7).alloc (Nat.le_refl _) _
 have hr8 : Rd w8 (.slice (some ⟨w7.heap.size,0,none⟩) 1 1) [l]:=by rw [← hw8]; exact Rd.laid (cs:=#[.int .u8 l]) rfl (by decide) rfl
 have ho8:=ho7.below hb8
 have hsz7:=hb57.size
 have hsz8:=hb8.size
 clear q0 q1 hw6 ho7
 go_wp2_with (at_builtin; refine wpList_append_rd rfl _ _ rfl w5.heap.size _ _ rfl ho8 _ _ rfl hr8 ?c1 ?c2 ?_)
 case c1 => simp [fixB_length]
 case c2 => omega
 intro v9 w9 ho9 hg9
 have hb59 : Below w5.heap.size w5 w9:=below_grown (hb57.trans (hb8.mono hsz7)) (by omega) ho8 hg9
 have hx9:=hx5.below hb59
 have q3:=hx9.c3
 clear hg9 ho8 hr8 q2 hw8
 go_wp2_with fail
 refine (refFix_any w9 w5.heap.size _ _ s 2 ho9 hb59.size (by simp [fixB_length]) (by omega) (by omega) s0 (by omega) (by omega)).mono ?_
 rintro e wa ⟨va,rfl,hoa,hba⟩
 have hcv : (convert 152 9 va).run Tryz.prog wa = .ok (.string (strOfNums (wrL 1 ⟨k,m,l,s,t,b⟩))) wa:=by
  have h:=hoa.rd.conv
  rw [HR.out]
  simpa using h
 go_wp2
 go_ret2
 exact ⟨rfl,hB5.trans ((hb59.trans hba).mono hB5.size)⟩
end Go.Proofs.YtgajjphjkbnaeaaGreat
