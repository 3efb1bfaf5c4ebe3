/- PCut, PPlaceOf, PRead, VwStore: in one text. -/
import Derived.Test.YtgajjphjkbnaeaaGreatQ3
import Derived.Lib.BytesEntry
import Derived.Laws.Externs
import Derived.BigQuiet
import Derived.Test.YtgajjphjkbnaeaaGreatQ11
import Derived.Deep.RegionHeld3
import Derived.Test.YtgajjphjkbnaeaaGreatQ1
import Derived.Test.YtgajjphjkbnaeaaGreatQ12
import Derived.Deep.QuietTactic
namespace Go.Proofs.YtgajjphjkbnaeaaGreat
open Go.RowKit
set_option linter.unusedVariables false
set_option maxHeartbeats 32000000
set_option maxRecDepth 100000
set_option linter.unusedSimpArgs false
def zLen : List Int → Nat
 | [] => 0
 | x :: xs => if x = 0 then 0 else zLen xs + 1
theorem zLen_le (xs : List Int) : zLen xs ≤ xs.length:=by
 induction xs with
 | nil => exact Nat.le_refl _
 | cons x xs ih => unfold zLen; split <;> simp <;> omega
theorem index_zLen (xs : List Int) (hy : Byt xs) : Lib.indexByte (Lib.bytesOf xs) 0 = if zLen xs = xs.length then -1 else (zLen xs : Int):=by
 induction xs with
 | nil => rfl
 | cons x xs ih =>
  have ih':=ih (fun y hy' => hy y (by simp [hy']))
  obtain ⟨h0,h1⟩:=hy x (by simp)
  have hl:=zLen_le xs
  show Lib.indexByte (UInt8.ofNat x.toNat :: Lib.bytesOf xs) 0 = _
  unfold Lib.indexByte zLen
  rw [ih']
  by_cases hx : x = 0
  ·subst hx
   have hb : (UInt8.ofNat (0 : Int).toNat == 0) = true:=by decide
   rw [if_pos hb,if_pos rfl,if_neg (by simp)]
   rfl
  ·have hne : (UInt8.ofNat x.toNat == 0) = false:=by
    rw [beq_eq_false_iff_ne]
    intro e
    have:=congrArg UInt8.toNat e
    simp at this
    omega
   rw [if_neg (by rw [hne]; decide),if_neg hx]
   by_cases he : zLen xs = xs.length
   ·rw [if_pos he,if_pos (by decide),if_pos (by simp [he])]
   ·have hb : ((zLen xs : Int) == -1) = false:=by rw [beq_eq_false_iff_ne]; omega
    rw [if_neg he,if_neg (by rw [hb]; decide),if_neg (by simp; omega)]
    omega
theorem indexByte_any (w : World) (b off n cap : Nat) (xs : List Int) (c : Int) (hx : xs.length = n) (hc : ∀ i,i < n → w.cell? ⟨b,off + i,none⟩ = some (.int .u8 (xs.getD i 0))) :
  Calls Tryz.prog 169 #[.slice (some ⟨b,off,none⟩) n cap,.int .u8 c] w fun e w' => e = .returned (.int .i64 (Lib.indexByte (Lib.bytesOf xs) c.toNat.toUInt8)) ∧ w = w':=by
 go_enter Tryz.func169,Tryz.ntmps169
 go_wp2
 rw [run_callFunc_extern Tryz.func184 (by kernel_rfl) (by kernel_rfl) (by kernel_rfl) (e:=Extern.BytealgIndexByte.indexByte) (by kernel_rfl),Lib.run_indexByteSlice w b off n cap xs hx hc c]
 simp only [Result.andThen]
 rw [Oper.upon_value]
 go_wp2
 go_ret
 exact ⟨rfl,rfl⟩
theorem index_any (w : World) (b off n cap g : Nat) (xs : List Int) (hx : xs.length = n) (hc : ∀ i,i < n → w.cell? ⟨b,off + i,none⟩ = some (.int .u8 (xs.getD i 0))) (hg : w.cell? ⟨g,0,none⟩ = some (.int .u8 0)) :
  Calls Tryz.prog 158 #[.slice (some ⟨b,off,none⟩) n cap,.slice (some ⟨g,0,none⟩) 1 1] w fun e w' => e = .returned (.int .i64 (Lib.indexByte (Lib.bytesOf xs) 0)) ∧ w = w':=by
 have hi:=indexByte_any w b off n cap xs 0 hx hc
 clear hc
 go_enter Tryz.func158,Tryz.ntmps158
 go_wp2_with fail
 refine hi.mono ?_
 rintro e w1 ⟨rfl,rfl⟩
 go_wp2
 go_ret
 exact ⟨rfl,rfl⟩
theorem cut_any (w : World) (b off n cap g : Nat) (xs : List Int) (hx : xs.length = n) (hy : Byt xs) (hcap : n ≤ cap) (hn : n ≤ 1000) (hc : ∀ i,i < n → w.cell? ⟨b,off + i,none⟩ = some (.int .u8 (xs.getD i 0))) (hg : w.cell? ⟨g,0,none⟩ = some (.int .u8 0)) :
  Calls Tryz.prog 137 #[.slice (some ⟨b,off,none⟩) n cap,.slice (some ⟨g,0,none⟩) 1 1] w fun e w' => ∃ v2 v3,e = .returned (.tuple #[.slice (some ⟨b,off,none⟩) (zLen xs) cap,v2,v3]) ∧ Below w.heap.size w w':=by
 have hi:=index_any w b off n cap g xs hx hc hg
 have hz:=zLen_le xs
 rw [index_zLen xs hy] at hi
 by_cases he : zLen xs = xs.length
 ·rw [if_pos he] at hi
  rw [he,hx]
  clear hz hc he
  go_enter Tryz.func137,Tryz.ntmps137
  go_wp2_with fail
  refine hi.mono ?_
  rintro e w1 ⟨rfl,rfl⟩
  go_wp2
  refine bodyPost_ret (results_tmp3 rfl _ _ _) rfl ?_
  exact ⟨_,_,rfl,Below.refl _ _⟩
 ·rw [if_neg he] at hi
  have hlt : zLen xs < n:=by omega
  have e1 : (zLen xs : Int) ≤ (n : Int):=by omega
  have e2 : (zLen xs : Int) ≤ (cap : Int):=by omega
  have e3 : (zLen xs : Int) + 1 ≤ (n : Int):=by omega
  have e4 : (n : Int) ≤ (cap : Int):=by omega
  have e5 : (n : Int) ≤ 1000:=by omega
  clear hz hc he hx hcap hn
  generalize zLen xs = z at *
  by_cases hcz : cap = z + 1
  ·subst hcz
   go_enter Tryz.func137,Tryz.ntmps137
   go_wp2_with fail
   refine hi.mono ?_
   rintro e w1 ⟨rfl,rfl⟩
   go_wp2
   go_quiet (fail)
   go_wp2
   refine bodyPost_ret (results_tmp3 rfl _ _ _) rfl ?_
   exact ⟨_,_,rfl,⟨rfl,rfl,rfl,Nat.le_refl _,fun _ _ => rfl⟩⟩
  ·have hcz' : ¬ (cap : Int) = (z : Int) + 1:=by omega
   have hcz2 : z + 1 < cap:=by omega
   go_enter Tryz.func137,Tryz.ntmps137
   go_wp2_with fail
   refine hi.mono ?_
   rintro e w1 ⟨rfl,rfl⟩
   go_wp2
   go_quiet (fail)
   go_wp2
   refine bodyPost_ret (results_tmp3 rfl _ _ _) rfl ?_
   exact ⟨_,_,rfl,⟨rfl,rfl,rfl,Nat.le_refl _,fun _ _ => rfl⟩⟩
def plOf (xs : List Int) : Pl :=
 if xs.getD 4 0 = 1 then recP (valB (xs.take 4)) else if xs.getD 4 0 = 2 then entP (valB (xs.take 4)) (strOfNums ((xs.drop 5).take (zLen (xs.drop 5)))) else if xs.getD 4 0 = 3 then datP (valB (xs.take 4)) (valB ((xs.drop 5).take 4)) else pl0
theorem Rd.drop5 {w : World} {b off cap : Nat} {xs : List Int} (h : Rd w (.slice (some ⟨b,off,none⟩) 14 cap) xs) : Rd w (.slice (some ⟨b,off + 5,none⟩) 9 (cap - 5)) (xs.drop 5):=by
 have hl:=rd_length h
 obtain ⟨a,c,e,h1,h2,h3,h4⟩:=h
 have hc : c = cap:=by simp only [Value.slice.injEq] at e; exact e.2.2.symm
 have ha : a = some ⟨b,off,none⟩:=by simp only [Value.slice.injEq] at e; exact e.1.symm
 subst hc ha
 have hdl : (xs.drop 5).length = 9:=by simp [hl]
 refine ⟨_,_,by rw [hdl],by rw [hdl]; omega,by omega,(by intro e; cases e),fun _ => ?_⟩
 obtain ⟨b',off',e',hlt,hc⟩:=h4 (by intro e; subst e; simp at hl)
 simp only [Option.some.injEq,Addr.mk.injEq] at e'
 obtain ⟨rfl,rfl,_⟩:=e'
 refine ⟨_,_,rfl,hlt,fun i hi => ?_⟩
 rw [hdl] at hi
 have:=hc (i + 5) (by omega)
 rw [show off + 5 + i = off + (i + 5) from by omega,this]
 simp [Nat.add_comm]
theorem placeOf_any (w : World) (b off cap : Nat) (xs : List Int) (hr : Rd w (.slice (some ⟨b,off,none⟩) 14 cap) xs) (hy : Byt xs) :
  Calls Tryz.prog 121 #[.slice (some ⟨b,off,none⟩) 14 cap] w fun e w' => e = .returned (plV (plOf xs)) ∧ Below w.heap.size w w':=by
 obtain ⟨q,HQ⟩ : ∃ q,Hid (plOf xs = q):=⟨_,rfl⟩
 rw [HQ.out]
 have hl:=rd_length hr
 have hcap : 14 ≤ cap:=by
  obtain ⟨a,c,e,h1,_⟩:=hr
  simp only [Value.slice.injEq] at e
  omega
 obtain ⟨w1,hw1⟩ : ∃ w1,w1 = w.alloc (.cells #[.int .u32 0,.int .i64 0,.string ⟨#[]⟩,.int .u32 0] 110):=⟨_,rfl⟩
 have hb1 : Below w.heap.size w w1:=by rw [hw1]; exact (Below.refl _ _).alloc (Nat.le_refl _) _
 have hp1 : PlAt w1 w.heap.size pl0:=by rw [hw1]; exact PlAt.laid w pl0
 have hr1:=hr.below hb1
 have hrS : ∀ W,Below w1.heap.size w1 W → Rd W (.slice (some ⟨b,off,none⟩) 14 cap) xs:=fun W hW => hr1.below hW
 have hcapI : (14 : Int) ≤ cap:=by omega
 go_enter Tryz.func121,Tryz.ntmps121
 go_wp2_with fail
 rw [← hw1]
 clear hw1
 refine wp_region_noPanic ?_
 go_region_held (fun W => Below w1.heap.size w1 W) (first | assumption | exact (Below.refl _ _).drew | exact keep2 (by assumption) (by assumption))
  (first
   | (go_at_call 135; refine (number4_any _ _ xs (hrS _ (by assumption)) hy (by omega)).mono ?_; rintro e w2 ⟨rfl,rfl⟩))
 refine NoPanic.normal ?_
 obtain ⟨w2,hw2⟩ : ∃ w2,w2 = w1.drew:=⟨_,rfl⟩
 rw [← hw2]
 have hb2 : Below w1.heap.size w1 w2:=by rw [hw2]; exact (Below.refl _ _).drew
 clear hw2
 have hr2:=hr1.below hb2
 have hp2:=hp1.below hb2
 have h4 : w2.cell? ⟨b,off + 4,none⟩ = some (.int .u8 (xs.getD 4 0)):=by
  obtain ⟨a,c,e,h1,h2,h3,h4⟩:=hr2
  obtain ⟨b',off',e',hlt,hc⟩:=h4 (by intro e; subst e; simp at hl)
  subst e'
  simp only [Value.slice.injEq,Option.some.injEq,Addr.mk.injEq] at e
  obtain ⟨⟨rfl,rfl,_⟩,_⟩:=e
  exact hc 4 (by omega)
 have hy4:=hy.getD 4
 have HZ : Hid (q = if xs.getD 4 0 = 1 then recP (valB (xs.take 4)) else if xs.getD 4 0 = 2 then entP (valB (xs.take 4)) (strOfNums ((xs.drop 5).take (zLen (xs.drop 5)))) else if xs.getD 4 0 = 3 then datP (valB (xs.take 4)) (valB ((xs.drop 5).take 4)) else pl0):=HQ.out.symm
 clear HQ
 generalize xs.getD 4 0 = z at *
 by_cases hz1 : z = 1
 ·subst hz1
  have hq:=HZ.out
  rw [if_pos rfl] at hq
  have HQ : Hid _:=hq
  clear hq HZ
  go_wp2_with fail
  refine (record_any _ _).mono ?_
  rintro e w3 ⟨rfl,hb3⟩
  have hpl:=hp2.below hb3
  have hq:=HQ.out
  have c0:=hpl.c0
  have c1:=hpl.c1
  have c2:=hpl.c2
  have c3:=hpl.c3
  have f0:=hpl.fr 0
  have f1:=hpl.fr 1
  have f2:=hpl.fr 2
  have f3:=hpl.fr 3
  unfold plV recP
  clear hq
  go_wp2
  have hq:=HQ.out
  exact ret_place rfl w.heap.size (recP (valB (xs.take 4))) rfl (hpl.put4 (recP (valB (xs.take 4)))).row rfl ⟨by rw [hq],below_put4 (thenB hb1 (thenB hb2 hb3)) (Nat.le_refl _) (recP (valB (xs.take 4)))⟩
 ·by_cases hz2 : z = 2
  ·subst hz2
   have hq:=HZ.out
   rw [if_neg (by decide),if_pos rfl] at hq
   have HQ : Hid _:=hq
   clear hq HZ
   have hd2:=hr2.drop5
   obtain ⟨wc,hwc⟩ : ∃ wc,wc = w2.alloc (.cells #[.int .u8 0] 5):=⟨_,rfl⟩
   have hbc : Below w2.heap.size w2 wc:=by rw [hwc]; exact (Below.refl _ _).alloc (Nat.le_refl _) _
   have hgc : wc.cell? ⟨w2.heap.size,0,none⟩ = some (.int .u8 0):=by
    rw [hwc,cell_of_row _ _ 0 _ 5 (0,0) (heap_alloc_new w2 _)]; rfl
   have hrc:=hd2.below hbc
   have hdl : (xs.drop 5).length = 9:=by simp [hl]
   have hcells : ∀ i,i < 9 → wc.cell? ⟨b,off + 5 + i,none⟩ = some (.int .u8 ((xs.drop 5).getD i 0)):=by
    obtain ⟨a,c,e,h1,h2,h3,h4⟩:=hrc
    obtain ⟨b',off',e',hlt,hc⟩:=h4 (by intro e; rw [e] at hdl; simp at hdl)
    subst e'
    simp only [Value.slice.injEq,Option.some.injEq,Addr.mk.injEq] at e
    obtain ⟨⟨rfl,rfl,_⟩,_⟩:=e
    intro i hi
    exact hc i (by omega)
   have hcut:=cut_any wc b (off + 5) 9 (cap - 5) w2.heap.size (xs.drop 5) hdl (hy.drop 5) (by omega) (by omega) hcells hgc
   have hzl:=zLen_le (xs.drop 5)
   clear hcells hgc
   go_wp2_with fail
   rw [← hwc]
   clear hwc
   refine hcut.mono ?_
   rintro e w3 ⟨v2,v3,rfl,hb3⟩
   have hr3 : Rd w3 (.slice (some ⟨b,off + 5,none⟩) (zLen (xs.drop 5)) (cap - 5)) ((xs.drop 5).take (zLen (xs.drop 5))):=by
    have hr3:=hrc.below hb3
    obtain ⟨a,c,e,h1,h2,h3,h4⟩:=hr3
    simp only [Value.slice.injEq] at e
    obtain ⟨rfl,_,rfl⟩:=e
    have hlt : ((xs.drop 5).take (zLen (xs.drop 5))).length = zLen (xs.drop 5):=by simp; omega
    refine ⟨_,_,by rw [hlt],by rw [hlt]; omega,h2,h3,fun hne => ?_⟩
    obtain ⟨b',off',e',hlt',hc⟩:=h4 (by intro e; rw [e] at hdl; simp at hdl)
    refine ⟨b',off',e',hlt',fun i hi => ?_⟩
    rw [hlt] at hi
    rw [hc i (by omega)]
    simp [hi]
   have hcv:=hr3.conv
   clear hcut hrc
   go_wp2_with fail
   refine (entry_any _ _ _).mono ?_
   rintro e w4 ⟨rfl,hb4⟩
   clear hcv
   have hpl:=hp2.below (thenB hbc (thenB hb3 hb4))
   have c0:=hpl.c0
   have c1:=hpl.c1
   have c2:=hpl.c2
   have c3:=hpl.c3
   have f0:=hpl.fr 0
   have f1:=hpl.fr 1
   have f2:=hpl.fr 2
   have f3:=hpl.fr 3
   unfold plV entP
   go_wp2
   have hq:=HQ.out
   exact ret_place rfl w.heap.size (entP (valB (xs.take 4)) (strOfNums ((xs.drop 5).take (zLen (xs.drop 5))))) rfl (hpl.put4 (entP (valB (xs.take 4)) (strOfNums ((xs.drop 5).take (zLen (xs.drop 5)))))).row rfl ⟨by rw [hq],below_put4 (thenB hb1 (thenB hb2 (thenB hbc (thenB hb3 hb4)))) (Nat.le_refl _) (entP (valB (xs.take 4)) (strOfNums ((xs.drop 5).take (zLen (xs.drop 5)))))⟩
  ·by_cases hz3 : z = 3
   ·subst hz3
    have hq:=HZ.out
    rw [if_neg (by decide),if_neg (by decide),if_pos rfl] at hq
    have HQ : Hid _:=hq
    clear hq HZ
    have hd2:=hr2.drop5
    have hnum:=number4_any w2 _ (xs.drop 5) hd2 (hy.drop 5) (by simp; omega)
    go_wp2_with fail
    refine hnum.mono ?_
    rintro e w3 ⟨rfl,rfl⟩
    clear hnum
    go_wp2_with fail
    refine (data_any _ _ _).mono ?_
    rintro e w4 ⟨rfl,hb4⟩
    have hpl:=hp2.below hb4
    have c0:=hpl.c0
    have c1:=hpl.c1
    have c2:=hpl.c2
    have c3:=hpl.c3
    have f0:=hpl.fr 0
    have f1:=hpl.fr 1
    have f2:=hpl.fr 2
    have f3:=hpl.fr 3
    unfold plV datP
    go_wp2
    have hq:=HQ.out
    exact ret_place rfl w.heap.size (datP (valB (xs.take 4)) (valB ((xs.drop 5).take 4))) rfl (hpl.put4 (datP (valB (xs.take 4)) (valB ((xs.drop 5).take 4)))).row rfl ⟨by rw [hq],below_put4 (thenB hb1 (thenB hb2 hb4)) (Nat.le_refl _) (datP (valB (xs.take 4)) (valB ((xs.drop 5).take 4)))⟩
   ·have hq:=HZ.out
    rw [if_neg hz1,if_neg hz2,if_neg hz3] at hq
    have HQ : Hid _:=hq
    clear hq HZ
    have hz1' : (z == 1) = false:=by simpa using hz1
    have hz2' : (z == 2) = false:=by simpa using hz2
    have hz3' : (z == 3) = false:=by simpa using hz3
    have hpl:=hp2
    have c0:=hpl.c0
    have c1:=hpl.c1
    have c2:=hpl.c2
    have c3:=hpl.c3
    have f0:=hpl.fr 0
    have f1:=hpl.fr 1
    have f2:=hpl.fr 2
    have f3:=hpl.fr 3
    go_wp2
    have hq:=HQ.out
    exact ret_place rfl w.heap.size (pl0) rfl (hpl.put4 (pl0)).row rfl ⟨by rw [hq],below_put4 (thenB hb1 hb2) (Nat.le_refl _) (pl0)⟩
theorem valB_u32 (xs : List Int) (hy : Byt xs) : (valB (xs.take 4) : Int) ≤ 4294967295:=by
 have h1:=valB_lt (xs.take 4) (hy.take 4)
 have h2 : (xs.take 4).length ≤ 4:=by simp; omega
 have h3 : 256 ^ (xs.take 4).length ≤ 256 ^ 4:=Nat.pow_le_pow_right (by decide) h2
 omega
theorem plOf_ok (xs : List Int) (hy : Byt xs) (hl : xs.length = 14) : PlOk (plOf xs):=by
 have h1:=valB_u32 xs hy
 have h2:=valB_u32 (xs.drop 5) (hy.drop 5)
 have h3 : (strOfNums ((xs.drop 5).take (zLen (xs.drop 5)))).size ≤ maxLen:=by
  rw [strOfNums_size]; unfold maxLen; simp; omega
 have h0 : (⟨#[]⟩ : ByteArray).size ≤ maxLen:=by decide
 unfold plOf
 split
 ·exact ⟨by simp [recP],h1,by simp [recP],by simp [recP],h0,by simp [recP],by simp [recP]⟩
 ·split
  ·exact ⟨by simp [entP],h1,by simp [entP],by simp [entP],h3,by simp [entP],by simp [entP]⟩
  ·split
   ·exact ⟨by simp [datP],h1,by simp [datP],by simp [datP],h0,by simp [datP],h2⟩
   ·exact ⟨by simp [pl0],by simp [pl0],by simp [pl0],by simp [pl0],h0,by simp [pl0],by simp [pl0]⟩
def rdOk (s : ByteArray) : Bool:=decide (s.size = 14) && plOk (plOf (strB s)) && ((keyS (plOf (strB s))).toList == s.toList)
def rdP (s : ByteArray) : Pl:=if rdOk s then plOf (strB s) else pl0
def rdE (s : ByteArray) : Int:=if rdOk s then 0 else 11
theorem rd_no {s : ByteArray} (h : rdOk s = false) : rdP s = pl0 ∧ rdE s = 11:=by unfold rdP rdE; rw [h]; exact ⟨rfl,rfl⟩
theorem rd_yes {s : ByteArray} (h : rdOk s = true) : rdP s = plOf (strB s) ∧ rdE s = 0:=by unfold rdP rdE; rw [h]; exact ⟨rfl,rfl⟩
theorem Rd.slice14 {w : World} {v : Value} {xs : List Int} (h : Rd w v xs) (hl : xs.length = 14) : ∃ b off cap,v = .slice (some ⟨b,off,none⟩) 14 cap:=by
 obtain ⟨a,c,e,h1,h2,h3,h4⟩:=h
 obtain ⟨b,off,rfl,_⟩:=h4 (by intro e; subst e; simp at hl)
 exact ⟨b,off,c,by rw [e,hl]⟩
theorem read_size (w : World) (s : ByteArray) (hs : ¬ (s.size : Int) = 14) : Calls Tryz.prog 105 #[.string s] w fun e w' => e = .returned (.tuple #[plV pl0,.int .i64 11]) ∧ Below w.heap.size w w':=by
 have hs' : ((s.size : Int) != 14) = true:=by simpa using hs
 go_enter Tryz.func105,Tryz.ntmps105
 go_wp2
 exact ret_place2 rfl w.heap.size pl0 rfl _ rfl (PlAt.laid w pl0).row rfl ⟨rfl,(Below.refl _ _).alloc (Nat.le_refl _) _⟩
theorem read_in (w : World) (s : ByteArray) (hs : s.size = 14) : Calls Tryz.prog 105 #[.string s] w fun e w' => e = .returned (.tuple #[plV (rdP s),.int .i64 (rdE s)]) ∧ Below w.heap.size w w':=by
 obtain ⟨w1,hw1⟩ : ∃ w1,w1 = w.alloc (.cells #[.int .u32 0,.int .i64 0,.string ⟨#[]⟩,.int .u32 0] 110):=⟨_,rfl⟩
 have hb1 : Below w.heap.size w w1:=by rw [hw1]; exact (Below.refl _ _).alloc (Nat.le_refl _) _
 have hp1 : PlAt w1 w.heap.size pl0:=by rw [hw1]; exact PlAt.laid w pl0
 have hl : (strB s).length = 14:=by rw [strB_length]; exact hs
 have hy:=strB_byt s
 have hok:=plOf_ok (strB s) hy hl
 obtain ⟨v2,w2,hcv,hr2,hb2⟩:=conv_bytes w1 s (by omega)
 obtain ⟨b,off,cap,rfl⟩:=hr2.slice14 hl
 have hpo:=placeOf_any w2 b off cap (strB s) hr2 hy
 obtain ⟨q,hq⟩ : ∃ q,q = plOf (strB s):=⟨_,rfl⟩
 rw [← hq] at hpo hok
 have HR : Hid (rdOk s = (plOk q && ((keyS q).toList == s.toList))):=by
  show _ = _
  unfold rdOk
  rw [← hq,hs]
  rfl
 have hkey : ∀ W,Calls Tryz.prog 94 #[.agg #[.int .u32 q.ino,.int .i64 q.part,.string q.name,.int .u32 q.chunk]] W fun e w' => e = .returned (.tuple #[.string (keyS q),.int .i64 (plE q)]) ∧ Below W.heap.size W w':=fun W => key_any W q hok
 have hsI : (s.size : Int) = 14:=by omega
 have HQ : Hid (q = plOf (strB s)):=hq
 clear hq
 have hb02 : Below w.heap.size w w2:=thenB hb1 hb2
 have hp2 : PlAt w2 w.heap.size pl0:=hp1.below hb2
 rw [hw1] at hcv
 clear hw1 hb1 hp1 hb2
 go_enter Tryz.func105,Tryz.ntmps105
 go_wp2_with fail
 refine hpo.mono ?_
 rintro e w3 ⟨rfl,hb3⟩
 unfold plV
 go_wp2_with fail
 obtain ⟨wa,hwa⟩ : ∃ wa,wa = w3.alloc (.cells #[.int .u32 q.ino,.int .i64 q.part,.string q.name,.int .u32 q.chunk] 110):=⟨_,rfl⟩
 have hba : Below w3.heap.size w3 wa:=by rw [hwa]; exact (Below.refl _ _).alloc (Nat.le_refl _) _
 have hpa : PlAt wa w3.heap.size q:=by rw [hwa]; exact PlAt.laid w3 q
 rw [← hwa]
 clear hwa
 refine (hkey wa).mono ?_
 rintro e w4 ⟨rfl,hb4⟩
 have hq4:=hpa.below hb4
 have hpl:=hp2.below (thenB hb3 (thenB hba hb4))
 have hb04 : Below w.heap.size w w4:=thenB hb02 (thenB hb3 (thenB hba hb4))
 have c0:=hpl.c0
 have c1:=hpl.c1
 have c2:=hpl.c2
 have c3:=hpl.c3
 have f0:=hpl.fr 0
 have f1:=hpl.fr 1
 have f2:=hpl.fr 2
 have f3:=hpl.fr 3
 have d0:=hq4.c0
 have d1:=hq4.c1
 have d2:=hq4.c2
 have d3:=hq4.c3
 have hne : w.heap.size ≠ w3.heap.size:=by
  have:=hp2.lt
  have:=hb3.size
  omega
 clear hkey hpo hcv
 cases hk : plOk q
 ·have he : plE q = 30:=by unfold plE; rw [hk]; rfl
  have HN : Hid (rdP s = pl0 ∧ rdE s = 11):=rd_no (by rw [HR.out,hk]; rfl)
  rw [he]
  clear he
  go_wp2
  exact ret_place2 rfl w.heap.size pl0 rfl _ rfl (hpl.put4 pl0).row rfl ⟨by rw [HN.out.1,HN.out.2]; rfl,below_put4 hb04 (Nat.le_refl _) pl0⟩
 ·have he : plE q = 0:=by unfold plE; rw [hk]; rfl
  rw [he]
  clear he
  cases hs2 : ((keyS q).toList == s.toList)
  ·have HN : Hid (rdP s = pl0 ∧ rdE s = 11):=rd_no (by rw [HR.out,hk,hs2]; rfl)
   have hs3 : ¬ (keyS q).toList = s.toList:=by simpa using hs2
   clear hk
   go_wp2
   exact ret_place2 rfl w.heap.size pl0 rfl _ rfl (hpl.put4 pl0).row rfl ⟨by rw [HN.out.1,HN.out.2]; rfl,below_put4 hb04 (Nat.le_refl _) pl0⟩
  ·have HN : Hid (rdP s = plOf (strB s) ∧ rdE s = 0):=rd_yes (by rw [HR.out,hk,hs2]; rfl)
   have hs3 : (keyS q).toList = s.toList:=by simpa using hs2
   clear hk
   go_wp2
   exact ret_place2 rfl w.heap.size q rfl _ rfl (hpl.put4 q).row rfl ⟨by rw [HN.out.1,HN.out.2,← HQ.out]; rfl,below_put4 hb04 (Nat.le_refl _) q⟩
def RdK (w : World) (a : Option Addr) (n cap : Nat) (l : List (ByteArray × ByteArray)) : Prop :=
 l.length = n ∧ n ≤ cap ∧ cap ≤ maxLen ∧ (0 < n → ∃ b off,a = some ⟨b,off,none⟩ ∧ b < w.heap.size ∧ ∀ i p,l[i]? = some p → w.cell? ⟨b,off + i * 2,none⟩ = some (.string p.1) ∧ w.cell? ⟨b,off + i * 2 + 1,none⟩ = some (.string p.2))
theorem RdK.below {w w' : World} {a : Option Addr} {n cap : Nat} {l : List (ByteArray × ByteArray)} (h : RdK w a n cap l) (hb : Below w.heap.size w w') : RdK w' a n cap l:=by
 obtain ⟨h1,h2,h3,h4⟩:=h
 refine ⟨h1,h2,h3,fun hp => ?_⟩
 obtain ⟨b,off,e,hb',hc⟩:=h4 hp
 exact ⟨b,off,e,Nat.lt_of_lt_of_le hb' hb.size,fun i p hi => ⟨(hb.cell (p:=⟨b,off + i * 2,none⟩) hb').trans (hc i p hi).1,(hb.cell (p:=⟨b,off + i * 2 + 1,none⟩) hb').trans (hc i p hi).2⟩⟩
def ltS (a b : ByteArray) : Bool:=Op.bytesLess a.toList b.toList
def fdN (l : List (ByteArray × ByteArray)) (k : ByteArray) : Nat:=(l.takeWhile fun p => ltS p.1 k).length
def fdB (l : List (ByteArray × ByteArray)) (k : ByteArray) : Bool:=match l[fdN l k]? with | some p => p.1.toList == k.toList | none => false
theorem fdN_le (l : List (ByteArray × ByteArray)) (k : ByteArray) : fdN l k ≤ l.length:=by
 unfold fdN
 exact (List.takeWhile_sublist _).length_le
theorem fdN_at {k : ByteArray} : ∀ {l : List (ByteArray × ByteArray)} {i : Nat},i ≤ l.length → (∀ j p,j < i → l[j]? = some p → ltS p.1 k = true) → (∀ p,l[i]? = some p → ltS p.1 k = false) → fdN l k = i
 | [],i,hi,_,_ => by simp at hi; subst hi; rfl
 | x :: l,0,_,_,h2 => by
  have:=h2 x rfl
  simp [fdN,this]
 | x :: l,i + 1,hi,h1,h2 => by
  have h0:=h1 0 x (by omega) rfl
  have ih:=fdN_at (k:=k) (l:=l) (i:=i) (by simpa using hi) (fun j p hj hp => h1 (j + 1) p (by omega) (by simpa using hp)) (fun p hp => h2 p (by simpa using hp))
  unfold fdN at ih ⊢
  simp [h0,ih]
structure SoAt (w : World) (g : Nat) (a : Option Addr) (n cap : Nat) (l : List (ByteArray × ByteArray)) : Prop where
 row : w.heap[g]? = some (.cells #[.slice a n cap,.int .i64 (-1)] 84 (0,0))
 at_ : RdK w a n cap l
theorem SoAt.lt {w : World} {g : Nat} {a : Option Addr} {n cap : Nat} {l : List (ByteArray × ByteArray)} (h : SoAt w g a n cap l) : g < w.heap.size:=(Array.getElem?_eq_some_iff.1 h.row).1
theorem SoAt.below {w w' : World} {g : Nat} {a : Option Addr} {n cap : Nat} {l : List (ByteArray × ByteArray)} (h : SoAt w g a n cap l) (hb : Below w.heap.size w w') : SoAt w' g a n cap l:=⟨(hb.block g h.lt).trans h.row,h.at_.below hb⟩
theorem SoAt.c0 {w : World} {g : Nat} {a : Option Addr} {n cap : Nat} {l : List (ByteArray × ByteArray)} (h : SoAt w g a n cap l) : w.cell? ⟨g,0,none⟩ = some (.slice a n cap):=by rw [cell_of_row _ _ _ _ _ (0,0) h.row]; rfl
theorem SoAt.c1 {w : World} {g : Nat} {a : Option Addr} {n cap : Nat} {l : List (ByteArray × ByteArray)} (h : SoAt w g a n cap l) : w.cell? ⟨g,1,none⟩ = some (.int .i64 (-1)):=by rw [cell_of_row _ _ _ _ _ (0,0) h.row]; rfl
theorem fails_any {w : World} {g : Nat} {a : Option Addr} {n cap : Nat} {l : List (ByteArray × ByteArray)} (h : SoAt w g a n cap l) : Calls Tryz.prog 211 #[.pointer (some ⟨g,0,none⟩)] w fun e w' => e = .returned (.bool false) ∧ w' = w:=by
 have c1:=h.c1
 clear h
 go_enter Tryz.func211,Tryz.ntmps211
 go_wp2
 go_ret
 exact ⟨rfl,rfl⟩
theorem find_any (w : World) (a : Option Addr) (n cap : Nat) (l : List (ByteArray × ByteArray)) (h : RdK w a n cap l) (k : ByteArray) : Calls Tryz.prog 213 #[.slice a n cap,.string k] w fun e w' =>
  e = .returned (.tuple #[.int .i64 (fdN l k),.bool (fdB l k)]) ∧ Below w.heap.size w w':=by
 obtain ⟨hl,hnc,hcm,hI⟩:=h
 unfold maxLen at hcm
 go_enter Tryz.func213,Tryz.ntmps213
 go_wp2_with fail
 go_loopw [6,7,10] (fun _ _ t wr => ∃ (i : Nat),i ≤ n ∧ t = .int .i64 i ∧ Hid (∀ j p,j < i → l[j]? = some p → ltS p.1 k = true) ∧ Hid (Below w.heap.size w wr)) (fun _ _ t _ => n - (intOf t).toNat)
 case atStart => exact ⟨0,Nat.zero_le _,rfl,fun j p hj => absurd hj (Nat.not_lt_zero _),Below.refl _ _⟩
 case round =>
  obtain ⟨i,hi,rfl,HLO,HB⟩:=hrel
  by_cases hlt : i < n
  ·have hltI : (i : Int) < n:=by omega
   obtain ⟨b,off,rfl,hb,hcs⟩:=hI (by omega)
   obtain ⟨p,hp⟩ : ∃ p,l[i]? = some p:=⟨_,List.getElem?_eq_getElem (by omega)⟩
   obtain ⟨x0,x1⟩:=hcs i p hp
   have hcx0 : wr.cell? ⟨b,off + i * 2,none⟩ = some (.string p.1):=(HB.out.cell (p:=⟨b,off + i * 2,none⟩) hb).trans x0
   have hcx1 : wr.cell? ⟨b,off + i * 2 + 1,none⟩ = some (.string p.2):=(HB.out.cell (p:=⟨b,off + i * 2 + 1,none⟩) hb).trans x1
   have HP : Hid (l[i]? = some p):=hp
   have HB2 : Hid (Below w.heap.size w (wr.alloc (.cells #[.string p.1,.string p.2] 94))):=HB.out.alloc HB.out.size _
   clear hI hcs x0 x1 hp
   cases hls : Op.bytesLess p.1.toList k.toList
   ·have HF : Hid (fdN l k = i):=fdN_at (by omega) HLO.out (fun q hq => by rw [HP.out] at hq; cases hq; exact hls)
    have HE : Hid (fdB l k = (p.1.toList == k.toList)):=by unfold Hid fdB; rw [HF.out,HP.out]
    go_wp2_with fail
    have d0 : ∀ q,((wr.alloc (.cells #[.string p.1,.string p.2] 94)).drewN q).cell? ⟨wr.heap.size,0,none⟩ = some (.string p.1):=fun q => by
     rw [show ((wr.alloc (.cells #[.string p.1,.string p.2] 94)).drewN q).cell? ⟨wr.heap.size,0,none⟩ = (wr.alloc (.cells #[.string p.1,.string p.2] 94)).cell? ⟨wr.heap.size,0,none⟩ from rfl,cell_of_row _ _ _ _ _ (0,0) (heap_alloc_new wr _)]; rfl
    go_quiet (fail)
    have HB3 : Hid (Below w.heap.size w ((wr.alloc (.cells #[.string p.1,.string p.2] 94)).drewN nq)):=thenB HB2.out (belowQ _ _ _)
    go_wp2
    go_ret2
    exact ⟨by rw [HF.out,HE.out]; rfl,HB3.out⟩
   ·have HL2 : Hid (∀ j q,j < i + 1 → l[j]? = some q → ltS q.1 k = true):=fun j q hj hq => by
     by_cases e : j = i
     ·rw [e,HP.out] at hq; cases hq; exact hls
     ·exact HLO.out j q (by omega) hq
    go_wp2_with fail
    go_roundw
    case rel => exact ⟨i + 1,by omega,by go_num,HL2,HB2⟩
    case measure => simp [intOf]; omega
  ·obtain rfl : i = n:=by omega
   have hltI : ¬ (i : Int) < i:=by omega
   have HF : Hid (fdN l k = i):=fdN_at (by omega) HLO.out (fun q hq => by rw [List.getElem?_eq_none (by omega)] at hq; cases hq)
   have HE : Hid (fdB l k = false):=by unfold Hid fdB; rw [HF.out,List.getElem?_eq_none (by omega)]
   go_wp2
   go_ret2
   exact ⟨by rw [HF.out,HE.out]; rfl,HB.out⟩
def valS (l : List (ByteArray × ByteArray)) (k : ByteArray) : ByteArray:=if fdB l k then ((l.getD (fdN l k) (⟨#[]⟩,⟨#[]⟩)).2) else ⟨#[]⟩
theorem fdB_lt {l : List (ByteArray × ByteArray)} {k : ByteArray} (h : fdB l k = true) : ∃ p,l[fdN l k]? = some p ∧ p.1.toList = k.toList:=by
 unfold fdB at h
 cases hp : l[fdN l k]? with
 | none => rw [hp] at h; cases h
 | some p => rw [hp] at h; exact ⟨p,rfl,by simpa using h⟩
theorem sget_any {w : World} {g : Nat} {a : Option Addr} {n cap : Nat} {l : List (ByteArray × ByteArray)} (h : SoAt w g a n cap l) (k : ByteArray) : Calls Tryz.prog 210 #[.pointer (some ⟨g,0,none⟩),.string k] w fun e w' =>
  e = .returned (.tuple #[.string (valS l k),.bool (fdB l k),.int .i64 0]) ∧ Below w.heap.size w w':=by
 have cf:=fails_any h
 have ci:=find_any w a n cap l h.at_ k
 have c0:=h.c0
 have HS : Hid (SoAt w g a n cap l):=h
 have hle:=fdN_le l k
 have hl:=h.at_.1
 clear h
 go_enter Tryz.func210,Tryz.ntmps210
 go_wp2_with fail
 refine cf.mono ?_
 rintro e w1 ⟨rfl,rfl⟩
 clear cf
 go_wp2_with fail
 refine ci.mono ?_
 rintro e w2 ⟨rfl,hb2⟩
 clear ci
 have hS2:=HS.out.below hb2
 have d0:=hS2.c0
 cases hB : fdB l k
 ·have HV : Hid (valS l k = ⟨#[]⟩):=by unfold Hid valS; rw [hB]; rfl
  go_wp2
  go_ret3
  exact ⟨by rw [HV.out,hB]; rfl,hb2⟩
 ·obtain ⟨p,hp,_⟩:=fdB_lt hB
  have hlt:=(List.getElem?_eq_some_iff.1 hp).1
  have HV : Hid (valS l k = p.2):=by unfold Hid valS; rw [hB,if_pos rfl,List.getD_eq_getElem?_getD,hp]; rfl
  obtain ⟨_,hnc,hcm,hI⟩:=hS2.at_
  obtain ⟨b,off,rfl,hb,hcs⟩:=hI (by omega)
  obtain ⟨_,x1⟩:=hcs _ p hp
  obtain ⟨i,hi⟩ : ∃ i,fdN l k = i:=⟨_,rfl⟩
  rw [hi] at x1 hlt
  rw [hi]
  have hltI : (i : Int) < n:=by omega
  unfold maxLen at hcm
  clear hI hcs hp hi
  go_wp2
  go_ret3
  exact ⟨by rw [HV.out,hB]; rfl,hb2⟩
theorem sfrom_any {w : World} {g : Nat} (k : ByteArray) : Calls Tryz.prog 209 #[.pointer (some ⟨g,0,none⟩),.string k] w fun e w' =>
  e = .returned (.func (.func 212) #[] #[.pointer (some ⟨w.heap.size,0,none⟩),.pointer (some ⟨w.heap.size + 1,0,none⟩)]) ∧ w' = (w.alloc (.cells #[.pointer (some ⟨g,0,none⟩)] 37)).alloc (.cells #[.string k] 9):=by
 go_enter Tryz.func209,Tryz.ntmps209
 go_wp2
 go_ret
 exact ⟨rfl,rfl⟩
end Go.Proofs.YtgajjphjkbnaeaaGreat
