/- PhCut, PhSpl, PhJn, PhProg: in one text. -/
import Derived.Test.YtgajjphjkbnaeaaGreatQ16
import Derived.WalkMore
import Derived.Laws.RangeString
import Derived.Laws.RangeAny
import Derived.Shelf.Strings.OnBuilder
namespace Go.Proofs.YtgajjphjkbnaeaaGreat
open Go.RowKit
set_option linter.unusedVariables false
set_option maxHeartbeats 32000000
set_option maxRecDepth 100000
set_option linter.unusedSimpArgs false
def mayP (l : List ByteArray) : Bool:=decide (l.length ≤ 6) && l.all nameOk
theorem mayB_false {l : List ByteArray} {i : Nat} {x : ByteArray} (h : l[i]? = some x) (hx : nameOk x = false) : mayP l = false:=by
 unfold mayP
 have : l.all nameOk = false:=by
  rw [List.all_eq_false]
  exact ⟨x,List.mem_of_getElem? h,by rw [hx]; simp⟩
 rw [this,Bool.and_false]
theorem joinE_may (l : List ByteArray) : joinE l = if mayP l = true then 0 else 160:=by
 unfold joinE mayP
 by_cases h : l.length ≤ 6
 ·simp [h]
 ·simp [h]
theorem pmay_any {w : World} (a : Option Addr) (n c : Nat) (l : List ByteArray) (hl : RdZ 1 strE w (.slice a n c) l) (hs : ∀ x ∈ l,x.size ≤ maxLen) :
  Calls Tryz.prog 53 #[.slice a n c] w fun e w' => e = .returned (.bool (mayP l)) ∧ w = w':=by
 obtain ⟨h1,_,_⟩:=hl.len
 have HL : Hid (RdZ 1 strE w (.slice a n c) l ∧ l.length = n ∧ ∀ x ∈ l,x.size ≤ maxLen):=⟨hl,h1,hs⟩
 obtain ⟨M,hM⟩ : ∃ M,mayP l = M:=⟨_,rfl⟩
 rw [hM]
 have HR : Hid (mayP l = M):=hM
 clear hl h1 hs hM
 by_cases hbig : n > 6
 ·have hb : (n : Int) > 6:=by omega
  have hMM : M = false:=by rw [← HR.out,mayP,decide_eq_false (by have:=HL.out; omega),Bool.false_and]
  subst hMM
  go_enter Tryz.func53,Tryz.ntmps53
  go_wp2
  go_ret
  exact ⟨rfl,rfl⟩
 have hb : ¬ (n : Int) > 6:=by omega
 have hn6 : n ≤ 6:=by omega
 clear hbig
 go_enter Tryz.func53,Tryz.ntmps53
 go_wp2
 go_loopg [10] n (fun kx s10 wr => ∃ (i : Nat),s10 = .int .i64 i ∧ i ≤ n ∧ n - i ≤ kx ∧ Hid (w = wr ∧ (l.take i).all nameOk = true))
 case atStart => exact ⟨0,rfl,Nat.zero_le _,by omega,rfl,rfl⟩
 case round =>
  obtain ⟨i,rfl,hin,hkx,HQ⟩:=hrel
  have hwr : w = wr:=HQ.out.1
  subst hwr
  by_cases hlt : i < n
  ·obtain ⟨x,hx⟩ : ∃ x,l[i]? = some x:=⟨_,List.getElem?_eq_getElem (by have:=HL.out; omega)⟩
   have HX : Hid (l[i]? = some x):=hx
   obtain ⟨b0,o0,rfl,d0⟩:=s_cell HL.out.1 hx
   have hiI : (i : Int) < (n : Int):=by omega
   have hib : (i : Int) + 1 ≤ 1001:=by omega
   have hck:=checkName_any w x (HL.out.2.2 x (List.mem_of_getElem? hx))
   clear hx
   cases hq : nameOk x with
   | false =>
    rw [nameE_30 hq] at hck
    have hMM : M = false:=by rw [← HR.out]; exact mayB_false HX.out hq
    subst hMM
    go_wp2_with fail
    refine hck.mono ?_
    rintro e w6 ⟨rfl,rfl⟩
    go_wp2
    go_ret
    exact ⟨rfl,rfl⟩
   | true =>
    rw [nameE_0 hq] at hck
    have HT : Hid ((l.take i).all nameOk = true):=HQ.out.2
    go_wp2_with fail
    refine hck.mono ?_
    rintro e w6 ⟨rfl,rfl⟩
    clear hck
    go_wp2
    go_roundg (n - (i + 1))
    case measure => omega
    case rel =>
     exact ⟨i + 1,by rw [show ((i : Int) + 1) = ((i + 1 : Nat) : Int) by omega],by omega,by omega,rfl,all_next HX.out hq HT.out⟩
  ·obtain rfl : n = i:=by omega
   have hall : l.all nameOk = true:=by
    have h0:=HQ.out.2
    rw [List.take_of_length_le (by have:=HL.out; omega)] at h0
    exact h0
   have hMM : M = true:=by rw [← HR.out,mayP,decide_eq_true (by have:=HL.out; omega),hall]; rfl
   subst hMM
   clear hall HQ
   go_wp2
   go_ret
   exact ⟨rfl,rfl⟩
theorem get_bang (s : ByteArray) (j : Nat) (h : j < s.size) : s.get! j = s[j]'h:=by
 simp [ByteArray.get!,getElem!_pos,h]
 rfl
theorem sign_no (s : ByteArray) (pos : Nat) (h : pos < s.size) (hb : (s[pos]'h).toNat ≠ 47) :
  (Utf8.decode s pos).1 ≠ 47 ∧ ∀ j (hj : j < s.size),pos ≤ j → j < pos + (Utf8.decode s pos).2 → (s[j]'hj).toNat ≠ 47:=by
 by_cases ha : (s[pos]'h).toNat < 128
 ·rw [decode_ascii s pos h ha]
  refine ⟨hb,fun j hj h1 h2 => ?_⟩
  obtain rfl : j = pos:=by simp at h2; omega
  exact hb
 ·have hh:=decode_high s pos h (by omega)
  refine ⟨by omega,fun j hj h1 h2 => ?_⟩
  have e0 : s.get! (pos + 0) = s[pos]'h:=get_bang s pos h
  have hn : ¬ (s[pos]'h).toNat < 128:=ha
  have key : ∀ k,k < (Utf8.decode s pos).2 → 1 ≤ k → (s.get! (pos + k)).toNat / 64 = 2:=by
   intro k hk h1
   simp only [Utf8.decode,e0,hn,if_false] at hk
   split at hk
   ·rename_i hc
    simp only [Bool.and_eq_true,decide_eq_true_eq,beq_iff_eq] at hc
    split at hk
    ·obtain rfl : k = 1:=by simp at hk; omega
     exact hc.2.2
    ·simp at hk; omega
   ·split at hk
    ·rename_i hc
     simp only [Bool.and_eq_true,decide_eq_true_eq,beq_iff_eq] at hc
     split at hk
     ·rcases (show k = 1 ∨ k = 2 by simp at hk; omega) with rfl | rfl
      ·exact hc.1.2.2
      ·exact hc.2.2
     ·simp at hk; omega
    ·split at hk
     ·rename_i hc
      simp only [Bool.and_eq_true,decide_eq_true_eq,beq_iff_eq] at hc
      split at hk
      ·rcases (show k = 1 ∨ k = 2 ∨ k = 3 by simp at hk; omega) with rfl | rfl | rfl
       ·exact hc.1.1.2.2
       ·exact hc.1.2.2
       ·exact hc.2.2
      ·simp at hk; omega
     ·simp at hk; omega
  rcases Nat.eq_or_lt_of_le h1 with rfl | h3
  ·exact hb
  ·have:=key (j - pos) (by omega) (by omega)
   rw [show pos + (j - pos) = j by omega,get_bang s j hj] at this
   omega
theorem sign_yes (s : ByteArray) (pos : Nat) (h : pos < s.size) (hb : (s[pos]'h).toNat = 47) : (Utf8.decode s pos).1 = 47:=by
 rw [decode_ascii s pos h (by omega)]
 exact hb
theorem sign_wide (s : ByteArray) (pos : Nat) (h : pos < s.size) : 1 ≤ (Utf8.decode s pos).2:=by
 by_cases ha : (s[pos]'h).toNat < 128
 ·rw [decode_ascii s pos h ha]
  exact Nat.le_refl _
 ·exact (decode_high s pos h (by omega)).2
def Plain (s : ByteArray) (pos : Nat) : Prop:=∀ j (hj : j < s.size),j < pos → (s[j]'hj).toNat ≠ 47
theorem plain_next {s : ByteArray} {pos : Nat} (h : pos < s.size) (hp : Plain s pos) (hb : (s[pos]'h).toNat ≠ 47) : Plain s (pos + (Utf8.decode s pos).2):=fun j hj hlt => by
 rcases Nat.lt_or_ge j pos with h1 | h1
 ·exact hp j hj h1
 ·exact (sign_no s pos h hb).2 j hj h1 hlt
theorem plain_not {s : ByteArray} {pos : Nat} (hp : Plain s pos) : 47 ∉ (bytesOf s).take pos:=fun hm => by
 obtain ⟨j,hj⟩:=List.getElem?_of_mem hm
 rw [List.getElem?_take] at hj
 split at hj
 ·rename_i hlt
  have hl:=(List.getElem?_eq_some_iff.1 hj).1
  have hl' : j < s.size:=by rw [size_list]; exact hl
  have:=byte_at s j hl'
  rw [hj] at this
  have e : (47 : UInt8) = s[j]'hl':=by simpa using this
  exact hp j hl' hlt (by rw [← e]; rfl)
 ·cases hj
theorem bytes_take (s : ByteArray) (pos : Nat) : bytesOf (s.extract 0 pos) = (bytesOf s).take pos:=by
 unfold bytesOf
 rw [ByteArray.data_extract,Array.toList_extract,List.extract_eq_take_drop]
 simp
theorem bytes_drop (s : ByteArray) (pos n : Nat) (hn : n = s.size) : bytesOf (s.extract pos n) = (bytesOf s).drop pos:=by
 unfold bytesOf
 rw [ByteArray.data_extract,Array.toList_extract,List.extract_eq_take_drop,hn,size_list,List.take_of_length_le (by rw [List.length_drop]; omega)]
theorem plain_cut {s : ByteArray} {pos : Nat} (hp : Plain s pos) (h : pos < s.size) (hb : (s[pos]'h).toNat = 47) : cutB (bytesOf s) = bytesOf (s.extract 0 pos) :: cutB ((bytesOf s).drop (pos + 1)):=by
 have hq:=byte_at s pos h
 have hl:=(List.getElem?_eq_some_iff.1 hq).1
 have e : bytesOf s = (bytesOf s).take pos ++ 47 :: (bytesOf s).drop (pos + 1):=by
  have:=List.take_append_drop pos (bytesOf s)
  rw [List.drop_eq_getElem_cons hl,(List.getElem?_eq_some_iff.1 hq).2,show s[pos]'h = 47 from UInt8.toNat_inj.1 hb] at this
  exact this.symm
 rw [bytes_take]
 conv => lhs; rw [e]
 exact cut_app (plain_not hp) _
theorem plain_all {s : ByteArray} {pos : Nat} (hp : Plain s pos) (h : ¬ pos < s.size) : cutB (bytesOf s) = [bytesOf s]:=by
 refine cut_plain ?_
 have:=plain_not hp
 rwa [List.take_of_length_le (by unfold bytesOf; rw [← size_list]; omega)] at this
theorem iter_below (w : World) (s : ByteArray) (pos : Nat) : Below w.heap.size w (w.iter s pos):=belP w _
def CutOut (w w' : World) (s : ByteArray) (e : Ending) : Prop:=∃ a n c O,e = .returned (.slice a n c) ∧ OwnL w.heap.size 9 1 strE w' (.slice a n c) O ∧ O.map bytesOf = cutB ((bytesOf s).drop 1) ∧ (∀ x ∈ O,x.size ≤ 100) ∧ Below w.heap.size w w'
theorem pcut_any (w : World) (s : ByteArray) (h1 : 1 ≤ s.size) (h64 : s.size ≤ 64) : Calls Tryz.prog 52 #[.string s] w fun e w' => CutOut w w' s e:=by
 obtain ⟨iE,hiE,hz0,hz1,hz2⟩:=info_parts info_str
 obtain ⟨N,hN⟩ : ∃ N,s.size = N:=⟨_,rfl⟩
 have HN : Hid (s.size = N ∧ 1 ≤ N ∧ N ≤ 64):=⟨hN,by omega,by omega⟩
 clear hN h1 h64
 go_enter Tryz.func52,Tryz.ntmps52
 go_wp2
 go_step3
 go_wp2
 go_step3
 go_wp2
 go_loopg [0,3] N (fun kx s0 s3 wr => ∃ (t : ByteArray) (ao : Option Addr) (no co : Nat),s0 = .string t ∧ s3 = .slice ao no co ∧ 1 ≤ t.size ∧ t.size ≤ 64 ∧ t.size ≤ kx ∧ no + t.size ≤ 64 ∧ Hid (∃ O : List ByteArray,Below w.heap.size w wr ∧ OwnL w.heap.size 9 1 strE wr (.slice ao no co) O ∧ cutB ((bytesOf s).drop 1) = O.map bytesOf ++ cutB ((bytesOf t).drop 1) ∧ O.length = no ∧ ∀ x ∈ O,x.size ≤ 100))
 case atStart => exact ⟨s,none,0,0,rfl,rfl,by have:=HN.out; omega,by have:=HN.out; omega,by have:=HN.out; omega,by have:=HN.out; omega,[],Below.refl _ _,OwnL.nil _ _ _ _ _,rfl,rfl,fun x hx => by cases hx⟩
 case round =>
  obtain ⟨t,ao,no,co,rfl,rfl,ht1,ht64,htk,hno,HQ⟩:=hrel
  have ht1I : (1 : Int) ≤ (t.size : Int):=by omega
  obtain ⟨T,hT⟩ : ∃ T,t.extract 1 t.size = T:=⟨_,rfl⟩
  have hTs : T.size = t.size - 1:=by rw [← hT,ByteArray.size_extract]; omega
  have HT : Hid ((bytesOf t).drop 1 = bytesOf T):=by rw [← hT,bytes_drop t 1 _ rfl]; rfl
  obtain ⟨W0,rfl⟩ : ∃ W0,W0 = wr:=⟨_,rfl⟩
  go_wp2
  go_loopg [0,3] T.size (fun kz s0 s3 wq => ∃ (pos : Nat),s0 = .string T ∧ s3 = .slice ao no co ∧ T.size - pos ≤ kz ∧ Hid (wq = W0.iter T pos ∧ Plain T pos))
  case atStart => exact ⟨0,rfl,rfl,by omega,rfl,fun j hj h => absurd h (Nat.not_lt_zero _)⟩
  case round =>
   obtain ⟨pos,rfl,rfl,hkz,HK⟩:=hrel
   have HP : Hid (Plain T pos):=HK.out.2
   have hwq:=HK.out.1
   subst hwq
   obtain ⟨O,hO⟩:=HQ.out
   have HQ' : Hid _:=hO
   have hlen : O.length ≤ 64:=by have:=hO.2.2.2.1; omega
   have HLQ : Hid (O.length ≤ 64):=hlen
   clear hO hlen HK
   by_cases hp : pos < T.size
   ·have hnx : ∀ ty,(Instr.next (.pointer (some ⟨W0.heap.size,0,none⟩)) true ty).run Tryz.prog (W0.iter T pos) = _:=fun ty => run_next_any W0 T pos ty hp
    by_cases hb : (T[pos]'hp).toNat = 47
    ·have HB4 : Hid (Below W0.heap.size W0 (W0.iter T (pos + (Utf8.decode T pos).2))):=iter_below _ _ _
     obtain ⟨w4,hw4⟩ : ∃ w4,W0.iter T (pos + (Utf8.decode T pos).2) = w4:=⟨_,rfl⟩
     rw [hw4] at hnx HB4
     rw [sign_yes T pos hp hb] at hnx
     have HC : Hid (cutB (bytesOf T) = bytesOf (T.extract 0 pos) :: cutB ((bytesOf T).drop (pos + 1))):=plain_cut HP.out hp hb
     have HD : Hid ((bytesOf T).drop (pos + 1) = (bytesOf (T.extract pos T.size)).drop 1):=by rw [bytes_drop T pos _ rfl,List.drop_drop]; rfl
     have hXs : (T.extract 0 pos).size ≤ 64:=by rw [ByteArray.size_extract]; omega
     have hYs : (T.extract pos T.size).size = T.size - pos:=by rw [ByteArray.size_extract]; omega
     obtain ⟨X,hX⟩ : ∃ X,T.extract 0 pos = X:=⟨_,rfl⟩
     obtain ⟨Y,hY⟩ : ∃ Y,T.extract pos T.size = Y:=⟨_,rfl⟩
     rw [hX] at HC hXs
     rw [hY] at HD hYs
     rw [hTs] at hY
     have hpI : (pos : Int) ≤ (T.size : Int):=by omega
     clear hw4 hb
     have hbl:=belP w4 (.cells #[.string X] 9)
     obtain ⟨w5,hw5⟩ : ∃ w5,w4.alloc (.cells #[.string X] 9) = w5:=⟨_,rfl⟩
     have hrow : w5.heap[w4.heap.size]? = some (.cells #[.string X] 9 (0,0)):=by rw [← hw5]; exact heap_alloc_new w4 _
     have hr5 : RdZ 1 strE w5 (.slice (some ⟨w4.heap.size,0,none⟩) 1 1) [X]:=s_rd hrow
     rw [hw5] at hbl
     have HO5:=OwnL.below (OwnL.below HQ'.out.2.1 HB4.out) hbl
     have HW5 : Hid (Below w.heap.size w w5):=(HQ'.out.1.trans (HB4.out.mono HQ'.out.1.size)).trans (hbl.mono (Nat.le_trans HQ'.out.1.size HB4.out.size))
     have HS5 : Hid (w.heap.size ≤ w5.heap.size):=HW5.out.size
     clear hrow hbl
     go_wp2_with (refine wpList_append_E str_len str_one Tryz.underlying26 hiE hz0 hz1 hz2 rfl (by decide) (by decide) rfl _ _ rfl w.heap.size _ _ rfl HO5 _ [X] rfl hr5 (by have:=HLQ.out; simp only [List.length_singleton]; omega) HS5.out ?_; rintro v7 w7 ho7 hg7)
     have hb7 : Below w.heap.size w w7:=grownP_below HW5.out hg7 (fun g hg => by
      obtain ⟨_,⟨e,_⟩ | ⟨g',cap,cur,e,h3,_⟩⟩:=HO5
      ·rw [e] at hg; cases hg
      ·rw [e] at hg; cases hg; exact h3) HW5.out.size
     obtain ⟨a7,c7,e7⟩:=row_slice ho7
     have HO7 : Hid (OwnL w.heap.size 9 1 strE w7 v7 (O ++ [X])):=ho7
     have HB7 : Hid (Below w.heap.size w w7):=hb7
     clear ho7 hg7 hb7 HO5 hr5
     subst e7
     try go_wp2
     go_roundg (t.size - 1)
     case measure => omega
     case rel =>
      refine ⟨Y,a7,_,c7,rfl,rfl,by omega,by omega,by omega,by have:=HQ'.out.2.2.2.1; simp only [List.length_append,List.length_singleton]; omega,O ++ [X],HB7.out,HO7.out,?_,rfl,(fun x hx => by
       rcases List.mem_append.1 hx with h | h
       ·exact HQ'.out.2.2.2.2 x h
       ·rw [List.mem_singleton.1 h]; omega)⟩
      rw [List.map_append,List.append_assoc,HQ'.out.2.2.1,HT.out,HC.out,HD.out]
      rfl
    ·have hs:=sign_no T pos hp hb
     have HP2 : Hid (Plain T (pos + (Utf8.decode T pos).2)):=plain_next hp HP.out hb
     have hwd:=sign_wide T pos hp
     obtain ⟨r,hr⟩ : ∃ r,(Utf8.decode T pos).1 = r:=⟨_,rfl⟩
     obtain ⟨d,hd⟩ : ∃ d,(Utf8.decode T pos).2 = d:=⟨_,rfl⟩
     rw [hr,hd] at hnx
     have hr47 : ¬ (r : Int) = 47:=by have:=hs.1; omega
     rw [hd] at HP2 hwd
     clear hs hr hd hb
     go_wp2
     go_roundg (T.size - (pos + d))
     case measure => omega
     case rel => exact ⟨pos + d,rfl,rfl,by omega,rfl,HP2.out⟩
   ·have hnx : ∀ ty,(Instr.next (.pointer (some ⟨W0.heap.size,0,none⟩)) true ty).run Tryz.prog (W0.iter T pos) = _:=fun ty => run_next_end W0 T pos ty hp
    have HB4 : Hid (Below W0.heap.size W0 (W0.iter T pos)):=iter_below _ _ _
    have HC : Hid (cutB (bytesOf T) = [bytesOf T]):=plain_all HP.out hp
    obtain ⟨w4,hw4⟩ : ∃ w4,W0.iter T pos = w4:=⟨_,rfl⟩
    rw [hw4] at hnx HB4 ⊢
    clear hw4
    have hbl:=belP w4 (.cells #[.string T] 9)
    obtain ⟨w5,hw5⟩ : ∃ w5,w4.alloc (.cells #[.string T] 9) = w5:=⟨_,rfl⟩
    have hrow : w5.heap[w4.heap.size]? = some (.cells #[.string T] 9 (0,0)):=by rw [← hw5]; exact heap_alloc_new w4 _
    have hr5 : RdZ 1 strE w5 (.slice (some ⟨w4.heap.size,0,none⟩) 1 1) [T]:=s_rd hrow
    rw [hw5] at hbl
    have HO5:=OwnL.below (OwnL.below HQ'.out.2.1 HB4.out) hbl
    have HW5 : Hid (Below w.heap.size w w5):=(HQ'.out.1.trans (HB4.out.mono HQ'.out.1.size)).trans (hbl.mono (Nat.le_trans HQ'.out.1.size HB4.out.size))
    have HS5 : Hid (w.heap.size ≤ w5.heap.size):=HW5.out.size
    clear hrow hbl
    go_wp2_with (refine wpList_append_E str_len str_one Tryz.underlying26 hiE hz0 hz1 hz2 rfl (by decide) (by decide) rfl _ _ rfl w.heap.size _ _ rfl HO5 _ [T] rfl hr5 (by have:=HLQ.out; simp only [List.length_singleton]; omega) HS5.out ?_; rintro v7 w7 ho7 hg7)
    have hb7 : Below w.heap.size w w7:=grownP_below HW5.out hg7 (fun g hg => by
     obtain ⟨_,⟨e,_⟩ | ⟨g',cap,cur,e,h3,_⟩⟩:=HO5
     ·rw [e] at hg; cases hg
     ·rw [e] at hg; cases hg; exact h3) HW5.out.size
    obtain ⟨a7,c7,e7⟩:=row_slice ho7
    have HO7 : Hid (OwnL w.heap.size 9 1 strE w7 v7 (O ++ [T])):=ho7
    have HB7 : Hid (Below w.heap.size w w7):=hb7
    clear ho7 hg7 hb7 HO5 hr5
    subst e7
    try go_wp2
    (try rw [Exit.noGoto_ret])
    go_ret
    refine ⟨a7,_,c7,O ++ [T],rfl,HO7.out,?_,(fun x hx => by
     rcases List.mem_append.1 hx with h | h
     ·exact HQ'.out.2.2.2.2 x h
     ·rw [List.mem_singleton.1 h]; omega),HB7.out⟩
    rw [HQ'.out.2.2.1,HT.out,HC.out,List.map_append]
    rfl
def strokeB (s : ByteArray) : Bool:=s.data.toList.head? == some 47
theorem stroke_ext (s : ByteArray) (h : 1 ≤ s.size) : ((s.extract 0 1).toList == [47]) = strokeB s:=by
 have h0 : 0 < s.size:=by omega
 have e:=ext1 s 0 h0
 unfold bytesOf at e
 have e2 : (s.extract 0 1).toList = [s[0]'h0]:=by rw [ByteArray.toList_eq]; exact e
 have hq:=byte_at s 0 h0
 unfold bytesOf at hq
 unfold strokeB
 rw [e2,List.head?_eq_getElem?,hq]
 cases hb : (s[0]'h0 == 47) <;> simp_all
theorem lpre_any (w : World) (s : ByteArray) (hs : s.size ≤ maxLen) : Calls Tryz.prog 73 #[.string s,.string ⟨#[47]⟩] w fun e w' => e = .returned (.bool (strokeB s)) ∧ w' = w:=by
 unfold maxLen at hs
 obtain ⟨B,hB⟩ : ∃ B,strokeB s = B:=⟨_,rfl⟩
 rw [hB]
 by_cases h1 : (s.size : Int) ≥ 1
 ·have he:=stroke_ext s (by omega)
  rw [hB] at he
  clear hB
  go_enter Tryz.func73,Tryz.ntmps73
  go_wp2
  go_ret
  exact ⟨rfl,rfl⟩
 ·have hBF : B = false:=by
   rw [← hB]
   unfold strokeB
   have : s.data.toList = []:=List.eq_nil_of_length_eq_zero (by rw [← size_list]; omega)
   rw [this]; rfl
  subst hBF
  clear hB
  go_enter Tryz.func73,Tryz.ntmps73
  go_wp2
  go_ret
  exact ⟨rfl,rfl⟩
theorem spre_any (w : World) (s : ByteArray) (hs : s.size ≤ maxLen) : Calls Tryz.prog 51 #[.string s,.string ⟨#[47]⟩] w fun e w' => e = .returned (.bool (strokeB s)) ∧ w' = w:=by
 have h:=lpre_any w s hs
 go_enter Tryz.func51,Tryz.ntmps51
 go_wp2_with fail
 refine h.mono ?_
 rintro e w1 ⟨rfl,rfl⟩
 go_wp2
 go_ret
 exact ⟨rfl,rfl⟩
theorem psplit_any (w : World) (s : ByteArray) (hs : s.size ≤ maxLen) : Calls Tryz.prog 26 #[.string s] w fun e w' => SpOut w w' s e:=by
 have hpre:=spre_any w s hs
 unfold maxLen at hs
 by_cases h47 : s.toList = [47]
 ·have hd : s.data.toList = [47]:=by rw [← ByteArray.toList_eq]; exact h47
  have hE : pathE s = 0:=by unfold pathE; rw [if_pos hd]
  have hL : pathL s = []:=by unfold pathL; rw [if_pos hE,if_pos hd]
  have h47' : (s.toList == [47]) = true:=by rw [h47]; rfl
  unfold SpOut
  rw [hE,hL]
  clear hpre
  go_enter Tryz.func26,Tryz.ntmps26
  go_wp2
  go_ret2
  exact ⟨_,_,_,rfl,FrR.nil _ _,Below.refl _ _⟩
 have hd : s.data.toList ≠ [47]:=by rw [← ByteArray.toList_eq]; exact h47
 have h47' : (s.toList == [47]) = false:=by rw [beq_eq_false_iff_ne]; exact h47
 have FIN : Hid (∀ W,pathE s ≠ 0 → Below w.heap.size w W → SpOut w W s (.returned (.tuple #[.slice none 0 0,.int .i64 160]))):=fun W h hW => by
  have e1:=(pathE_or s).resolve_left h
  have e2 : pathL s = []:=by unfold pathL; rw [if_neg h]
  exact ⟨_,_,_,by rw [e1],by rw [e2]; exact FrR.nil _ _,hW⟩
 have HEAD : Hid (headOk s = false → pathE s ≠ 0):=fun h => by unfold pathE; rw [if_neg hd,if_neg (by rw [h]; simp)]; decide
 by_cases h64 : (s.size : Int) > 64
 ·have hno : pathE s ≠ 0:=HEAD.out (by unfold headOk; rw [decide_eq_false (show ¬ s.size ≤ 64 by omega),Bool.and_false]; rfl)
  clear hpre
  go_enter Tryz.func26,Tryz.ntmps26
  go_wp2
  go_ret2
  exact FIN.out _ hno (Below.refl _ _)
 cases hq : strokeB s with
 | false =>
  have hno : pathE s ≠ 0:=HEAD.out (by
   unfold strokeB at hq
   unfold headOk
   rw [hq,Bool.and_false])
  rw [hq] at hpre
  go_enter Tryz.func26,Tryz.ntmps26
  go_wp2_with fail
  refine hpre.mono ?_
  rintro e w1 ⟨rfl,rfl⟩
  clear hpre
  go_wp2
  go_ret2
  exact FIN.out _ hno (Below.refl _ _)
 | true =>
  rw [hq] at hpre
  have h1 : 1 ≤ s.size:=by
   rcases Nat.eq_zero_or_pos s.size with h | h
   ·exfalso
    unfold strokeB at hq
    have : s.data.toList = []:=List.eq_nil_of_length_eq_zero (by rw [← size_list]; omega)
    rw [this] at hq
    cases hq
   ·exact h
  have h2 : 2 ≤ s.size:=by
   rcases Nat.lt_or_ge s.size 2 with h | h
   ·exfalso
    apply hd
    have hl : s.data.toList.length = 1:=by rw [← size_list]; omega
    unfold strokeB at hq
    match hx : s.data.toList,hl with
    | [x],_ =>
     rw [hx] at hq
     simp at hq
     rw [hq]
   ·exact h
  have hHead : headOk s = true:=by
   unfold headOk
   unfold strokeB at hq
   rw [hq,decide_eq_true h2,decide_eq_true (show s.size ≤ 64 by omega)]
   rfl
  have HPE : Hid (pathE s = if mayP (pathN s) = true then 0 else 160):=by
   rw [← joinE_may]
   unfold pathE joinE
   rw [if_neg hd,if_pos hHead]
   rfl
  have HPL : Hid (pathE s = 0 → pathL s = pathN s):=fun h => by unfold pathL; rw [if_pos h,if_neg hd]
  have hcut:=pcut_any w s h1 (by omega)
  clear hHead h1 h2 hd hq HEAD
  go_enter Tryz.func26,Tryz.ntmps26
  go_wp2_with fail
  refine hpre.mono ?_
  rintro e w1 ⟨rfl,rfl⟩
  clear hpre
  go_wp2_with fail
  refine hcut.mono ?_
  rintro e w2 ⟨a,n,c,O,rfl,hO,hc,hsz,hb⟩
  clear hcut
  have hON : pathN s = O:=by
   unfold pathN
   have : (bytesOf s).drop 1 = s.data.toList.drop 1:=rfl
   rw [← this,← hc]
   exact map_to O
  have hrd:=rdZ_own str_len hO
  have hm:=pmay_any a n c O hrd (fun x hx => by have:=hsz x hx; unfold maxLen; omega)
  have HF : Hid (FrR w1.heap.size w2 a n c O ∧ Below w1.heap.size w1 w2):=⟨FrR.of_own (hrd.len.1 ▸ hO),hb⟩
  rw [hON] at HPE HPL
  clear hO hc hsz hb hON hrd
  cases hq : mayP O with
  | true =>
   rw [hq] at hm
   have hE : pathE s = 0:=by rw [HPE.out,if_pos hq]
   have HQ : Hid (pathE s = 0 ∧ pathL s = O):=⟨hE,HPL.out hE⟩
   clear hE
   go_wp2_with fail
   refine hm.mono ?_
   rintro e w3 ⟨rfl,rfl⟩
   go_wp2
   go_ret2
   exact ⟨a,n,c,by rw [HQ.out.1]; rfl,by rw [HQ.out.2]; exact HF.out.1,HF.out.2⟩
  | false =>
   rw [hq] at hm
   have hE : pathE s ≠ 0:=by rw [HPE.out,if_neg (by rw [hq]; simp)]; decide
   have HQ : Hid (pathE s ≠ 0):=hE
   clear hE
   go_wp2_with fail
   refine hm.mono ?_
   rintro e w3 ⟨rfl,rfl⟩
   go_wp2
   go_ret2
   exact FIN.out _ HQ.out HF.out.2
theorem pparent_any (w : World) (s : ByteArray) (hs : s.size ≤ maxLen) : Calls Tryz.prog 36 #[.string s] w fun e w' => ParOut w w' s e:=by
 have hsp:=psplit_any w s hs
 go_enter Tryz.func36,Tryz.ntmps36
 go_wp2_with fail
 refine hsp.mono ?_
 rintro e w1 ⟨a,n,c,rfl,hf,hb⟩
 clear hsp
 have HF : Hid (FrR w.heap.size w1 a n c (pathL s)):=hf
 have HB : Hid (Below w.heap.size w w1 ∧ (pathL s).length = n):=⟨hb,hf.1.len.1⟩
 clear hf hb
 obtain ⟨E,hE⟩ : ∃ E,pathE s = E:=⟨_,rfl⟩
 rw [hE]
 have HE : Hid (pathE s = E):=hE
 rcases pathE_or s with h0 | h0
 ·have e0 : E = 0:=by rw [← hE]; exact h0
  subst e0
  clear hE h0
  by_cases hz : n = 0
  ·subst hz
   go_wp2
   go_ret3
   exact par_bad (fun h => h.2 (List.eq_nil_of_length_eq_zero HB.out.2)) HB.out.1
  ·obtain ⟨m,rfl⟩ : ∃ m,n = m + 1:=⟨n - 1,by omega⟩
   obtain ⟨x,hx⟩ : ∃ x,(pathL s)[m]? = some x:=⟨_,List.getElem?_eq_getElem (by have:=HB.out.2; omega)⟩
   have HX : Hid ((pathL s)[m]? = some x):=hx
   obtain ⟨b0,o0,rfl,d0⟩:=s_cell HF.out.1 hx
   have hm1 : ((m + 1 : Nat) : Int) - 1 = (m : Int):=by omega
   have hz' : ¬ ((m + 1 : Nat) : Int) = 0:=by omega
   have hcap : m + 1 ≤ c:=HF.out.1.len.2.1
   have hcapI : (m : Int) ≤ (c : Int):=by omega
   have hmI : (m : Int) < ((m + 1 : Nat) : Int):=by omega
   have hm6 : m ≤ 1000:=by have:=(path_all HE.out).1; have:=HB.out.2; omega
   clear hx hz
   go_wp2
   go_quiet (fail)
   go_wp2
   go_ret3
   exact par_goes HE.out HF.out HX.out HB.out.1 (belowQ _ _ _)
 ·have e0 : E = 160:=by rw [← hE]; exact h0
  subst e0
  clear hE h0
  go_wp2
  go_ret3
  exact par_bad (fun h => by rw [HE.out] at h; cases h.1) HB.out.1
theorem seq_any {w : World} (a : Option Addr) (n c : Nat) (l : List ByteArray) (hl : RdZ 1 strE w (.slice a n c) l) (b : Option Addr) (d : Nat) (r : List ByteArray) (hr : RdZ 1 strE w (.slice b n d) r) (hn : n ≤ 1000000) :
  Calls Tryz.prog 80 #[.slice a n c,.slice b n d] w fun e w' => e = .returned (.bool (sameP l r)) ∧ Below w.heap.size w w':=by
 obtain ⟨h1,_,_⟩:=hl.len
 obtain ⟨h2,_,_⟩:=hr.len
 have HL : Hid (RdZ 1 strE w (.slice a n c) l ∧ RdZ 1 strE w (.slice b n d) r ∧ l.length = n ∧ r.length = n):=⟨hl,hr,h1,h2⟩
 obtain ⟨F,hF⟩ : ∃ F,sameP l r = F:=⟨_,rfl⟩
 rw [hF]
 have HF : Hid (sameP l r = F):=hF
 clear hl hr h1 h2 hF
 go_enter Tryz.func80,Tryz.ntmps80
 go_wp2
 go_loopg [13] n (fun kx s13 wr => ∃ i : Nat,s13 = .int .i64 i ∧ i ≤ n ∧ n - i ≤ kx ∧ Hid (Below w.heap.size w wr) ∧ Hid (∀ (j : Nat) (x y : ByteArray),j < i → l[j]? = some x → r[j]? = some y → x.toList = y.toList))
 case atStart => exact ⟨0,rfl,Nat.zero_le _,by omega,Below.refl _ _,fun j x y hj => by omega⟩
 case round =>
  obtain ⟨i,rfl,hin,hkx,HW,HQ⟩:=hrel
  by_cases hlt : i < n
  ·obtain ⟨x,hx⟩ : ∃ x,l[i]? = some x:=⟨_,List.getElem?_eq_getElem (by have:=HL.out; omega)⟩
   obtain ⟨y,hy⟩ : ∃ y,r[i]? = some y:=⟨_,List.getElem?_eq_getElem (by have:=HL.out; omega)⟩
   have HXY : Hid (l[i]? = some x ∧ r[i]? = some y):=⟨hx,hy⟩
   obtain ⟨b0,o0,rfl,d0⟩:=s_cell (HL.out.1.below HW.out) hx
   obtain ⟨b1,o1,rfl,d1⟩:=s_cell (HL.out.2.1.below HW.out) hy
   have hiI : (i : Int) < (n : Int):=by omega
   have hib : (i : Int) + 1 ≤ 1000001:=by omega
   clear hx hy
   cases hq : (x.toList == y.toList) with
   | true =>
    have HQ' : Hid (x.toList = y.toList):=beq_iff_eq.1 hq
    go_wp2
    go_quiet (fail)
    go_wp2
    go_roundg (n - (i + 1))
    case measure => omega
    case rel =>
     refine ⟨i + 1,by rw [show ((i : Int) + 1) = ((i + 1 : Nat) : Int) by omega],by omega,by omega,thenB HW.out (belowQ _ _ _),fun j u v hj hu hv => ?_⟩
     rcases Nat.lt_or_ge j i with h | h
     ·exact HQ.out j u v h hu hv
     ·obtain rfl : j = i:=by omega
      rw [HXY.out.1] at hu
      rw [HXY.out.2] at hv
      cases hu; cases hv; exact HQ'.out
   | false =>
    have HQ' : Hid (x.toList ≠ y.toList):=fun e => by rw [e] at hq; simp at hq
    go_wp2
    go_quiet (fail)
    go_wp2
    go_ret
    refine ⟨?_,thenB HW.out (belowQ _ _ _)⟩
    rw [← HF.out,sameP_false HXY.out.1 HXY.out.2 HQ'.out]
    rfl
  ·obtain rfl : n = i:=by omega
   have hyes : F = true:=by
    rw [← HF.out]
    exact sameP_true (by have:=HL.out; omega) (fun j x y hx hy => HQ.out j x y (by have:=(List.getElem?_eq_some_iff.1 hx).1; have:=HL.out; omega) hx hy)
   go_wp2
   go_ret
   exact ⟨by rw [hyes]; rfl,HW.out⟩
theorem sameP_take : ∀ (l r : List ByteArray),l.length ≤ r.length → sameP l (r.take l.length) = sameP l r
 | [],r,_ => rfl
 | x :: l,[],h => by simp at h
 | x :: l,y :: r,h => by
  show sameP (x :: l) (y :: r.take l.length) = _
  unfold sameP
  rw [sameP_take l r (by simpa using h)]
theorem punder_any {w : World} (a : Option Addr) (n c : Nat) (l : List ByteArray) (hl : RdZ 1 strE w (.slice a n c) l) (b : Option Addr) (m d : Nat) (r : List ByteArray) (hr : RdZ 1 strE w (.slice b m d) r) (hn : n ≤ 1000000) :
  Calls Tryz.prog 60 #[.slice a n c,.slice b m d] w fun e w' => e = .returned (.bool (underB l r)) ∧ Below w.heap.size w w':=by
 obtain ⟨h1,_,_⟩:=hl.len
 obtain ⟨h2,h3,_⟩:=hr.len
 by_cases hnm : n < m
 ·have hgt : (m : Int) > (n : Int):=by omega
  have hcap : (n : Int) ≤ (d : Int):=by omega
  obtain ⟨b1,o1,rfl⟩ : ∃ b1 o1,b = some ⟨b1,o1,none⟩:=by
   obtain ⟨y,hy⟩ : ∃ y,r[0]? = some y:=⟨_,List.getElem?_eq_getElem (by omega)⟩
   obtain ⟨b0,o0,e,_⟩:=s_cell hr hy
   exact ⟨b0,o0,e⟩
  have hrt : RdZ 1 strE w (.slice (some ⟨b1,o1,none⟩) n d) (r.take n):=RdZ.take hr n (by omega) (fun e => by cases e)
  have hse:=seq_any a n c l hl _ d _ hrt hn
  have hU : underB l r = sameP l (r.take n):=by
   rw [underB,decide_eq_true (by omega),Bool.true_and,← h1,sameP_take l r (by omega)]
  rw [hU]
  obtain ⟨F,hF⟩ : ∃ F,sameP l (r.take n) = F:=⟨_,rfl⟩
  rw [hF] at hse ⊢
  clear hl hr hrt h1 h2 hU hF
  go_enter Tryz.func60,Tryz.ntmps60
  go_wp2_with fail
  refine hse.mono ?_
  rintro e w1 ⟨rfl,hb⟩
  clear hse
  go_wp2
  go_ret
  exact ⟨rfl,hb⟩
 ·have hle : ¬ (m : Int) > (n : Int):=by omega
  have hno : underB l r = false:=by rw [underB,decide_eq_false (by omega),Bool.false_and]
  rw [hno]
  go_enter Tryz.func60,Tryz.ntmps60
  go_wp2
  go_ret
  exact ⟨rfl,Below.refl _ _⟩
end Go.Proofs.YtgajjphjkbnaeaaGreat
