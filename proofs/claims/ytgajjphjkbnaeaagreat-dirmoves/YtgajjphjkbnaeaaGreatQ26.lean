/- VwTell: in one text. -/
import Derived.Test.YtgajjphjkbnaeaaGreatQ22
import Derived.Test.YtgajjphjkbnaeaaGreatQ25
import Derived.Test.YtgajjphjkbnaeaaGreatQ21
namespace Go.Proofs.YtgajjphjkbnaeaaGreat
open Go.RowKit
set_option linter.unusedVariables false
set_option maxHeartbeats 32000000
set_option maxRecDepth 100000
set_option linter.unusedSimpArgs false
open Go.RowKit Go.Shelf
attribute [local go_sem] Oper.semAt_some
def setN (C : List Cg) : List ByteArray:=(C.filter fun c => !c.gone).map fun c => c.pl.name
theorem setN_take {C : List Cg} {j : Nat} (hj : j < C.length) : setN (C.take (j + 1)) = setN (C.take j) ++ (if (C.getD j cg0).gone then [] else [(C.getD j cg0).pl.name]):=by
 have e : C.take (j + 1) = C.take j ++ [C.getD j cg0]:=by rw [List.take_add_one,List.getElem?_eq_getElem hj,List.getD_eq_getElem?_getD,List.getElem?_eq_getElem hj]; rfl
 rw [e]
 unfold setN
 rw [List.filter_append,List.map_append]
 generalize C.getD j cg0 = c
 cases h : c.gone <;> simp [h]
theorem setN_app (A B : List Cg) : setN (A ++ B) = setN A ++ setN B:=by simp [setN]
theorem setN_pre (C : List Cg) (j : Nat) : setN (C.take j) <+: setN C:=⟨setN (C.drop j),by rw [← setN_app,List.take_append_drop]⟩
theorem setN_len (C : List Cg) : (setN C).length ≤ C.length:=by unfold setN; rw [List.length_map]; exact List.length_filter_le _ _
theorem tellSet_in {xv : List Nat} {n : Nat} {L : Nat} {J Jx : List ByteArray → World → Prop} {n₀ n₁ : Nat} {M : Nat} {B0 : Nat} {m : Nat} (pre : List ByteArray) (C : List Cg) (hC : ∀ c ∈ C,CgOk c) (h8 : ∀ c ∈ C,c.pl.name.size ≤ 8) (a : Option Addr) (len cap : Nat) (W : World) (hn : n₀ ≤ W.heap.size) (hJ : OwnFrom B0 J)
  (hrd : RdC W (.slice a len cap) C) (hlow : ∀ b off,a = some ⟨b,off,none⟩ → b < n₀ ∧ b ∉ xv) (hnc : len ≤ cap) (hcm : cap ≤ maxLen) (hlen : pre.length + C.length ≤ M)
  (hY : ∀ pre x W1,okE (nmE x) → J pre W1 → pre.length < M → YieldAt Fence.wide m Tryz.prog L (nmE x) W1 fun e W' => (e = .returned (.bool true) ∧ J (pre ++ [x]) W' ∧ KpN (TV xv) n₀ n₁ W1 W') ∨ (e = .returned (.bool false) ∧ Jx (pre ++ [x]) W' ∧ KpN (TV xv) n₀ n₁ W1 W')) (h0 : J pre W) :
  CallsIn Fence.wide n Tryz.prog 103 #[.slice a len cap,.func (.yield L) #[] #[]] W fun e W' => KpN (TV xv) n₀ n₁ W W' ∧ ((e = .returned (.bool true) ∧ J (pre ++ setN C) W') ∨ (e = .returned (.bool false) ∧ ∃ q,Jx q W' ∧ q <+: pre ++ setN C)):=by
 obtain ⟨hl,hI⟩:=hrd.range hC
 unfold maxLen at hcm
 have hz:=zeroCg
 have len0 : cg0.pt.bytes.length = 32:=cg0_ok.pt.ch.1
 refine callsIn_of_wp Tryz.func103 rfl trivial ?_ rfl
 simp only [Tryz.ntmps103,List.size_toArray,List.length_cons,List.length_nil,Nat.reduceAdd,Nat.reduceSub,Array.replicate_succ,Array.replicate_zero,List.push_toArray,List.append_toArray,List.nil_append,List.cons_append]
 gi_wp2
 gi_loopw [6,9] (fun _ t wr => ∃ j : Nat,j ≤ len ∧ t = .int .i64 j ∧ J (pre ++ setN (C.take j)) wr ∧ KpN (TV xv) n₀ n₁ W wr) (fun _ t _ => len - (intOf t).toNat)
 case atStart => exact ⟨0,Nat.zero_le _,rfl,by simpa [setN] using h0,KpN.refl _ _ _⟩
 case round =>
  obtain ⟨j,hj,rfl,hJs,hk⟩:=hrel
  by_cases hlt : j < len
  ·have hltI : (j : Int) < len:=by omega
   obtain ⟨b,off,rfl,hb,hcs⟩:=hI (by omega)
   have hbn:=hlow b off rfl
   have hjC : j < C.length:=by omega
   have hx : C[j]? = some (C.getD j cg0):=by rw [List.getD_eq_getElem?_getD,List.getElem?_eq_getElem hjC]; rfl
   have hok : CgOk (C.getD j cg0):=hC _ (List.mem_of_getElem? hx)
   have hrg : wr.rangeAt b (off + j * 46) (cgL (C.getD j cg0)):=fun i u hu => (hk.bel.cell (p:=⟨b,off + j * 46 + i,none⟩) hbn.1 hbn.2).trans (hcs _ hlt i u hu)
   have hT:=setN_take hjC
   have hsl:=setN_len (C.take j)
   obtain ⟨c,hce⟩ : ∃ c,C.getD j cg0 = c:=⟨_,rfl⟩
   rw [hce] at hok hrg hT
   have HLD : Hid _:=range_load hrg hok
   have HL : Hid (c.pt.bytes.length = 32):=hok.pt.ch.1
   have HNL : Hid (c.pl.name.size ≤ 8):=h8 c (by rw [← hce,List.getD_eq_getElem?_getD,List.getElem?_eq_getElem hjC]; exact List.getElem_mem _)
   clear hcs hce hx hrg
   have hks:=hk.bel.size
   have hn3:=CgAt.laid wr cg0
   have hb3:=alloc_row (A:=wr) (.cells (cgC cg0) 114) (cgC c)
   have hc3:=hn3.setRow c
   obtain ⟨w3,hw3⟩ : ∃ w3,(wr.alloc (.cells (cgC cg0) 114)).setRow wr.heap.size (cgC c) = w3:=⟨_,rfl⟩
   rw [hw3] at hb3 hc3
   have k3 : KpN (TV xv) n₀ n₁ W w3:=hk.trans (KpN.of_below hb3 (by omega))
   have hJ3:=own_next hJ hJs hb3
   have x2:=hc3.c2
   have x4:=hc3.c4
   cases hg : c.gone
   ·rw [hg] at x4 hT
    obtain ⟨fn,tmps,assign,body,hy,hR⟩:=hY (pre ++ setN (C.take j)) c.pl.name w3 (okE_nm HNL.out) hJ3 (by rw [List.length_append]; rw [List.length_take] at hsl; omega)
    unfold nmE at hy
    gi_wp2_with (first
     | (refine wpListIn_loadS rfl 114 _ rfl _ rfl _ HLD.out ?_)
     | (refine wpListIn_storeS rfl 114 _ _ rfl wr.heap.size (cgC c) rfl rfl 114 (cgC cg0) hn3.row (by rw [cgC_size HL.out]; exact size_cg) (by rw [cgC_size HL.out,cgC_size len0]) (one_cg c) ?_; rw [hw3]))
    refine ⟨(fun h => by cases h),(round_wide hR).mono ?_⟩
    rintro e W3 (⟨rfl,hJ4,hk4⟩ | ⟨rfl,hJx4,hk4⟩)
    ·gi_wp2
     go_roundw
     case rel => exact ⟨j + 1,by omega,by simp,by rw [hT,← List.append_assoc]; simpa using hJ4,k3.trans hk4⟩
     case measure => simp [intOf]; omega
    ·gi_wp2
     refine bodyPost_ret (results_tmp rfl _ _ _) rfl ?_
     refine ⟨k3.trans hk4,.inr ⟨rfl,_,hJx4,?_⟩⟩
     have e : pre ++ setN (C.take j) ++ [c.pl.name] = pre ++ setN (C.take (j + 1)):=by rw [hT]; simp
     rw [e]
     exact (List.prefix_append_right_inj pre).2 (setN_pre C (j + 1))
   ·rw [hg] at x4 hT
    gi_wp2_with (first
     | (refine wpListIn_loadS rfl 114 _ rfl _ rfl _ HLD.out ?_)
     | (refine wpListIn_storeS rfl 114 _ _ rfl wr.heap.size (cgC c) rfl rfl 114 (cgC cg0) hn3.row (by rw [cgC_size HL.out]; exact size_cg) (by rw [cgC_size HL.out,cgC_size len0]) (one_cg c) ?_; rw [hw3]))
    refine ⟨fun _ h => (by cases h),?_⟩
    gi_wp2
    go_roundw
    case rel => exact ⟨j + 1,by omega,by simp,by rw [hT]; simpa using hJ3,k3⟩
    case measure => simp [intOf]; omega
  ·obtain rfl : j = len:=by omega
   have hltI : ¬ (j : Int) < j:=by omega
   rw [List.take_of_length_le (by omega)] at hJs
   gi_wp2
   refine bodyPost_ret (results_tmp rfl _ _ _) rfl ?_
   exact ⟨hk,.inl ⟨rfl,hJs⟩⟩
end Go.Proofs.YtgajjphjkbnaeaaGreat
