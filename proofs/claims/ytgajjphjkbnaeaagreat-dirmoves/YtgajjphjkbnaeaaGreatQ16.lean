/- PhMath, PhRow, PhJoin, PhSplit, PhOut: in one text. -/
import Derived.Test.YtgajjphjkbnaeaaGreatQ3
import Derived.Test.YtgajjphjkbnaeaaGreatQ15
import Derived.Deep.LoopGhost
import Derived.BigQuiet
import Derived.Deep.QuietTactic
import Derived.Deep.RegionHeld3
namespace Go.Proofs.YtgajjphjkbnaeaaGreat
open Go.RowKit
set_option linter.unusedVariables false
set_option maxHeartbeats 32000000
set_option maxRecDepth 100000
set_option linter.unusedSimpArgs false
def ofL (l : List UInt8) : ByteArray:=⟨l.toArray⟩
theorem ofL_list (s : ByteArray) : ofL s.data.toList = s:=by obtain ⟨d⟩:=s; rfl
theorem ofL_data (l : List UInt8) : (ofL l).data.toList = l:=rfl
theorem size_list (s : ByteArray) : s.size = s.data.toList.length:=by rw [Array.length_toList]; rfl
def cutB : List UInt8 → List (List UInt8)
 | [] => [[]]
 | c :: r => if c = 47 then [] :: cutB r else match cutB r with
  | [] => [[c]]
  | h :: t => (c :: h) :: t
def glue (l : List (List UInt8)) : List UInt8:=l.flatMap (fun n => 47 :: n)
theorem cut_plain : ∀ {n : List UInt8},47 ∉ n → cutB n = [n]
 | [],_ => rfl
 | c :: r,h => by
  have hc : c ≠ 47:=fun e => h (by simp [e])
  have hr : 47 ∉ r:=fun e => h (by simp [e])
  unfold cutB
  rw [if_neg hc,cut_plain hr]
theorem cut_app : ∀ {n : List UInt8},47 ∉ n → ∀ m,cutB (n ++ 47 :: m) = n :: cutB m
 | [],_,m => by
  show cutB (47 :: m) = _
  rw [cutB,if_pos rfl]
 | c :: r,h,m => by
  have hc : c ≠ 47:=fun e => h (by simp [e])
  have hr : 47 ∉ r:=fun e => h (by simp [e])
  show cutB (c :: (r ++ 47 :: m)) = _
  rw [cutB,if_neg hc,cut_app hr]
theorem cut_glue : ∀ {l : List (List UInt8)},l ≠ [] → (∀ n ∈ l,47 ∉ n) → cutB ((glue l).drop 1) = l
 | [n],_,h => by
  have : glue [n] = 47 :: n:=by simp [glue]
  rw [this]
  exact cut_plain (h n (by simp))
 | n :: m :: l,_,h => by
  have e : (glue (n :: m :: l)).drop 1 = n ++ 47 :: (glue (m :: l)).drop 1:=by simp [glue]
  rw [e,cut_app (h n (by simp)),cut_glue (by simp) (fun x hx => h x (by simp [hx]))]
def pathN (s : ByteArray) : List ByteArray:=(cutB (s.data.toList.drop 1)).map ofL
def headOk (s : ByteArray) : Bool:=decide (2 ≤ s.size) && decide (s.size ≤ 64) && (s.data.toList.head? == some 47)
def pathE (s : ByteArray) : Int:=if s.data.toList = [47] then 0 else if headOk s = true then (if (pathN s).length ≤ 6 then (if (pathN s).all nameOk = true then 0 else 160) else 160) else 160
def pathL (s : ByteArray) : List ByteArray:=if pathE s = 0 then (if s.data.toList = [47] then [] else pathN s) else []
def joinE (ns : List ByteArray) : Int:=if ns.length ≤ 6 then (if ns.all nameOk = true then 0 else 160) else 160
def gluS (ns : List ByteArray) : ByteArray:=ofL (glue (ns.map (fun n => n.data.toList)))
def joinS (ns : List ByteArray) : ByteArray:=if joinE ns = 0 then (if ns = [] then ofL [47] else gluS ns) else ⟨#[]⟩
def parE (s : ByteArray) : Int:=if pathE s = 0 ∧ pathL s ≠ [] then 0 else 160
def parL (s : ByteArray) : List ByteArray:=if parE s = 0 then (pathL s).dropLast else []
def parN (s : ByteArray) : ByteArray:=if parE s = 0 then (pathL s).getLast?.getD ⟨#[]⟩ else ⟨#[]⟩
theorem pathE_or (s : ByteArray) : pathE s = 0 ∨ pathE s = 160:=by
 unfold pathE
 split
 ·exact .inl rfl
 ·split
  ·split
   ·split
    ·exact .inl rfl
    ·exact .inr rfl
   ·exact .inr rfl
  ·exact .inr rfl
theorem path_all {s : ByteArray} (h : pathE s = 0) : (pathL s).length ≤ 6 ∧ (pathL s).all nameOk = true:=by
 unfold pathL
 rw [if_pos h]
 split
 ·exact ⟨by simp,rfl⟩
 ·rename_i h1
  unfold pathE at h
  rw [if_neg h1] at h
  split at h
  ·split at h
   ·split at h
    ·exact ⟨‹_›,‹_›⟩
    ·cases h
   ·cases h
  ·cases h
theorem map_to (ns : List ByteArray) : (ns.map (fun n => n.data.toList)).map ofL = ns:=by
 rw [List.map_map]
 have : (ofL ∘ (fun n : ByteArray => n.data.toList)) = id:=funext ofL_list
 rw [this,List.map_id]
theorem nameOk_no47 {n : ByteArray} (h : nameOk n = true) : 47 ∉ n.data.toList:=by
 unfold nameOk at h
 simp only [Bool.and_eq_true,Bool.not_eq_true'] at h
 have:=h.2
 intro e
 rw [List.contains_iff_mem.2 e] at this
 cases this
theorem nmOk_size {n : ByteArray} (h : nameOk n = true) : 1 ≤ n.data.toList.length ∧ n.data.toList.length ≤ 8:=by
 unfold nameOk at h
 simp only [Bool.and_eq_true,decide_eq_true_eq] at h
 rw [size_list] at h
 exact ⟨h.1.1.1.1.1,h.1.1.1.1.2⟩
theorem glue_len : ∀ {l : List (List UInt8)},(∀ n ∈ l,1 ≤ n.length ∧ n.length ≤ 8) → 2 * l.length ≤ (glue l).length ∧ (glue l).length ≤ 9 * l.length
 | [],_ => by simp [glue]
 | n :: l,h => by
  have ih:=glue_len (l:=l) (fun x hx => h x (by simp [hx]))
  have hn:=h n (by simp)
  have e : (glue (n :: l)).length = n.length + 1 + (glue l).length:=by
   show (47 :: n ++ glue l).length = _
   rw [List.length_append,List.length_cons]
  rw [e,List.length_cons]
  omega
theorem split_join {ns : List ByteArray} (h : joinE ns = 0) : pathE (joinS ns) = 0 ∧ pathL (joinS ns) = ns:=by
 have hh : ns.length ≤ 6 ∧ ns.all nameOk = true:=by
  unfold joinE at h
  split at h
  ·split at h
   ·exact ⟨‹_›,‹_›⟩
   ·cases h
  ·cases h
 have hall:=List.all_eq_true.1 hh.2
 by_cases he : ns = []
 ·subst he
  have e : joinS [] = ofL [47]:=by unfold joinS; rw [if_pos h,if_pos rfl]
  have e0 : pathE (ofL [47]) = 0:=by unfold pathE; rw [if_pos (ofL_data [47])]
  rw [e]
  refine ⟨e0,?_⟩
  unfold pathL
  rw [if_pos e0,if_pos (ofL_data [47])]
 ·have e : joinS ns = gluS ns:=by unfold joinS; rw [if_pos h,if_neg he]
  have hl : ∀ n ∈ ns.map (fun n => n.data.toList),1 ≤ n.length ∧ n.length ≤ 8:=fun n hn => by
   obtain ⟨m,hm,rfl⟩:=List.mem_map.1 hn
   exact nmOk_size (hall m hm)
  have hlen:=glue_len hl
  rw [List.length_map] at hlen
  have hpos : 0 < ns.length:=List.length_pos_iff.2 he
  have hgd : (gluS ns).data.toList = glue (ns.map (fun n => n.data.toList)):=rfl
  have hcut : pathN (gluS ns) = ns:=by
   unfold pathN
   rw [hgd,cut_glue (by simpa using he) (fun n hn => by
    obtain ⟨m,hm,rfl⟩:=List.mem_map.1 hn
    exact nameOk_no47 (hall m hm)),map_to]
  have h47 : (gluS ns).data.toList ≠ [47]:=fun e => by
   have:=congrArg List.length e
   rw [hgd] at this
   simp at this
   omega
  have hhd : headOk (gluS ns) = true:=by
   unfold headOk
   rw [size_list,hgd]
   have h1 : (glue (ns.map (fun n => n.data.toList))).head? = some 47:=by
    cases ns with
    | nil => exact absurd rfl he
    | cons n r => rfl
   rw [h1,decide_eq_true (by omega),decide_eq_true (by omega)]
   rfl
  have hE : pathE (gluS ns) = 0:=by
   unfold pathE
   rw [if_neg h47,if_pos hhd,hcut,if_pos hh.1,if_pos hh.2]
  rw [e]
  refine ⟨hE,?_⟩
  unfold pathL
  rw [if_pos hE,if_neg h47,hcut]
theorem par_split {s : ByteArray} (h : parE s = 0) : pathE s = 0 ∧ parL s ++ [parN s] = pathL s:=by
 have hp : pathE s = 0 ∧ pathL s ≠ []:=by
  unfold parE at h
  split at h
  ·assumption
  ·cases h
 refine ⟨hp.1,?_⟩
 unfold parL parN
 rw [if_pos h,if_pos h]
 have:=List.dropLast_concat_getLast hp.2
 rw [List.getLast?_eq_some_getLast hp.2]
 exact this
def sameP : List ByteArray → List ByteArray → Bool
 | [],_ => true
 | x :: a,y :: b => (x.toList == y.toList) && sameP a b
 | _ :: _,[] => false
theorem sameP_iff : ∀ {a b : List ByteArray},sameP a b = true ↔ a <+: b
 | [],b => ⟨fun _ => List.nil_prefix,fun _ => rfl⟩
 | x :: a,[] => ⟨(fun h => by cases h),(fun h => by simp at h)⟩
 | x :: a,y :: b => by
  unfold sameP
  rw [Bool.and_eq_true,beq_iff_eq,sameP_iff,List.cons_prefix_cons]
  exact ⟨fun h => ⟨toList_inj h.1,h.2⟩,fun h => ⟨by rw [h.1],h.2⟩⟩
def underB (a b : List ByteArray) : Bool:=decide (a.length < b.length) && sameP a b
def sameL (a b : List ByteArray) : Bool:=decide (a.length = b.length) && sameP a b
theorem sameL_iff {a b : List ByteArray} : sameL a b = true ↔ a = b:=by
 unfold sameL
 rw [Bool.and_eq_true,decide_eq_true_eq,sameP_iff]
 exact ⟨fun h => h.2.eq_of_length h.1,fun h => by subst h; exact ⟨rfl,List.prefix_refl _⟩⟩
def strE (s : ByteArray) : List Value:=[.string s]
theorem str_len (x : ByteArray) : (strE x).length = 1:=rfl
theorem str_one (x : ByteArray) : ∀ u ∈ strE x,u.oneCell' = true:=fun u hu => by simp [strE] at hu; subst hu; rfl
theorem info_str : (Tryz.prog.info? 9).map (fun i => (i.zero,i.size,i.bytes)) = some (some (.string ⟨#[]⟩),1,16):=by kernel_rfl
theorem s_cell {w : World} {a : Option Addr} {n cap : Nat} {l : List ByteArray} (h : RdZ 1 strE w (.slice a n cap) l) {i : Nat} {x : ByteArray} (hx : l[i]? = some x) :
  ∃ b off,a = some ⟨b,off,none⟩ ∧ w.cell? ⟨b,off + i,none⟩ = some (.string x):=by
 obtain ⟨⟨a',c,e,h1,h2,h3⟩,_⟩:=h
 simp only [Value.slice.injEq] at e
 obtain ⟨rfl,rfl,rfl⟩:=e
 obtain ⟨b,off,rfl,hlt,hc⟩:=h3 (by intro e; subst e; simp at hx)
 have:=hc i x 0 _ hx rfl
 rw [Nat.mul_one,Nat.add_zero] at this
 exact ⟨b,off,rfl,this⟩
theorem sameP_true : ∀ {a b : List ByteArray},a.length ≤ b.length → (∀ (i : Nat) (x y : ByteArray),a[i]? = some x → b[i]? = some y → x.toList = y.toList) → sameP a b = true
 | [],_,_,_ => rfl
 | x :: a,[],h,_ => by simp at h
 | x :: a,y :: b,h,hq => by
  unfold sameP
  rw [Bool.and_eq_true,beq_iff_eq]
  exact ⟨hq 0 x y rfl rfl,sameP_true (by simpa using h) (fun i u v hu hv => hq (i + 1) u v (by simpa using hu) (by simpa using hv))⟩
theorem sameP_false : ∀ {a b : List ByteArray} {i : Nat} {x y : ByteArray},a[i]? = some x → b[i]? = some y → x.toList ≠ y.toList → sameP a b = false
 | [],_,_,_,_,h,_,_ => by simp at h
 | x :: a,[],i,_,_,_,h,_ => by simp at h
 | u :: a,v :: b,0,x,y,h1,h2,h3 => by
  simp at h1 h2
  subst h1 h2
  unfold sameP
  rw [beq_eq_false_iff_ne.2 h3,Bool.false_and]
 | u :: a,v :: b,i + 1,x,y,h1,h2,h3 => by
  unfold sameP
  rw [sameP_false (by simpa using h1) (by simpa using h2) h3,Bool.and_false]
theorem same_any {w : World} (a : Option Addr) (n c : Nat) (l : List ByteArray) (hl : RdZ 1 strE w (.slice a n c) l) (b : Option Addr) (m d : Nat) (r : List ByteArray) (hr : RdZ 1 strE w (.slice b m d) r) (hn : n ≤ 1000000) :
  Calls Tryz.prog 12 #[.slice a n c,.slice b m d] w fun e w' => e = .returned (.bool (sameL l r)) ∧ Below w.heap.size w w':=by
 obtain ⟨h1,_,_⟩:=hl.len
 obtain ⟨h2,_,_⟩:=hr.len
 have HL : Hid (RdZ 1 strE w (.slice a n c) l ∧ RdZ 1 strE w (.slice b m d) r ∧ l.length = n ∧ r.length = m):=⟨hl,hr,h1,h2⟩
 obtain ⟨F,hF⟩ : ∃ F,sameL l r = F:=⟨_,rfl⟩
 rw [hF]
 have HF : Hid (sameL l r = F):=hF
 clear hl hr h1 h2 hF
 by_cases hnm : n = m
 ·subst hnm
  go_enter Tryz.func12,Tryz.ntmps12
  go_wp2
  go_loopg [13] n (fun kx s13 wr => ∃ i : Nat,s13 = .int .i64 i ∧ i ≤ n ∧ n - i ≤ kx ∧ Hid (Below w.heap.size w wr) ∧ Hid (∀ (j : Nat) (x y : ByteArray),j < i → l[j]? = some x → r[j]? = some y → x.toList = y.toList))
  case atStart => exact ⟨0,rfl,Nat.zero_le _,by omega,Below.refl _ _,fun j x y hj => by omega⟩
  case round =>
   obtain ⟨i,rfl,hin,hkx,HW,HQ⟩:=hrel
   by_cases hlt : i < n
   ·obtain ⟨x,hx⟩ : ∃ x,l[i]? = some x:=⟨_,List.getElem?_eq_getElem (by have:=HL.out; omega)⟩
    obtain ⟨y,hy⟩ : ∃ y,r[i]? = some y:=⟨_,List.getElem?_eq_getElem (by have:=HL.out; omega)⟩
    have HXY : Hid (l[i]? = some x ∧ r[i]? = some y):=⟨hx,hy⟩
    obtain ⟨b0,o0,rfl,d0⟩:=s_cell (HL.out.1.below HW.out) hx
    obtain ⟨b1,o1,rfl,d1⟩:=s_cell (HL.out.2.1.below HW.out) hy
    have hiI : (i : Int) < (n : Int):=by omega
    have hib : (i : Int) + 1 ≤ 1000001:=by omega
    clear hx hy
    cases hq : (x.toList == y.toList) with
    | true =>
     have hq' : x.toList = y.toList:=beq_iff_eq.1 hq
     have HQ' : Hid (x.toList = y.toList):=hq'
     clear hq'
     go_wp2
     go_quiet (fail)
     go_wp2
     go_roundg (n - (i + 1))
     case measure => omega
     case rel =>
      refine ⟨i + 1,by rw [show ((i : Int) + 1) = ((i + 1 : Nat) : Int) by omega],by omega,by omega,thenB HW.out (belowQ _ _ _),fun j u v hj hu hv => ?_⟩
      rcases Nat.lt_or_ge j i with h | h
      ·exact HQ.out j u v h hu hv
      ·obtain rfl : j = i:=by omega
       rw [HXY.out.1] at hu
       rw [HXY.out.2] at hv
       cases hu; cases hv; exact HQ'.out
    | false =>
     have HQ' : Hid (x.toList ≠ y.toList):=fun e => by rw [e] at hq; simp at hq
     go_wp2
     go_quiet (fail)
     go_wp2
     go_ret
     refine ⟨?_,thenB HW.out (belowQ _ _ _)⟩
     rw [← HF.out,sameL,sameP_false HXY.out.1 HXY.out.2 HQ'.out,Bool.and_false]
     rfl
   ·obtain rfl : n = i:=by omega
    have hyes : F = true:=by
     rw [← HF.out,sameL,decide_eq_true (by have:=HL.out; omega),Bool.true_and]
     exact sameP_true (by have:=HL.out; omega) (fun j x y hx hy => HQ.out j x y (by have:=(List.getElem?_eq_some_iff.1 hx).1; have:=HL.out; omega) hx hy)
    go_wp2
    go_ret
    exact ⟨by rw [hyes]; rfl,HW.out⟩
 ·have hne : ¬ (n : Int) = (m : Int):=by omega
  have hno : F = false:=by rw [← HF.out,sameL,decide_eq_false (by have:=HL.out; omega),Bool.false_and]
  go_enter Tryz.func12,Tryz.ntmps12
  go_wp2
  go_ret
  exact ⟨by rw [hno]; rfl,Below.refl _ _⟩
theorem gluS_next {ns : List ByteArray} {i : Nat} {x : ByteArray} (h : ns[i]? = some x) : gluS (ns.take (i + 1)) = gluS (ns.take i) ++ ((⟨#[47]⟩ : ByteArray) ++ x):=by
 rw [take_next h]
 unfold gluS glue
 rw [List.map_append,List.flatMap_append]
 obtain ⟨d⟩:=x
 apply congrArg ByteArray.mk
 apply Array.ext'
 simp [ofL]
theorem all_next {ns : List ByteArray} {i : Nat} {x : ByteArray} (h : ns[i]? = some x) (hx : nameOk x = true) (hp : (ns.take i).all nameOk = true) : (ns.take (i + 1)).all nameOk = true:=by
 rw [take_next h,List.all_append,hp]; simp [hx]
theorem gluS_le {ns : List ByteArray} (h : ns.all nameOk = true) : (gluS ns).size ≤ 9 * ns.length:=by
 have:=(glue_len (l:=ns.map (fun n => n.data.toList)) (fun n hn => by
  obtain ⟨m,hm,rfl⟩:=List.mem_map.1 hn
  exact nmOk_size (List.all_eq_true.1 h m hm))).2
 rw [List.length_map] at this
 exact this
def bytesOf (s : ByteArray) : List UInt8:=s.data.toList
theorem byte_at (s : ByteArray) (i : Nat) (hi : i < s.size) : (bytesOf s)[i]? = some (s[i]'hi):=by
 unfold bytesOf
 rw [Array.getElem?_toList]
 exact Array.getElem?_eq_getElem hi
theorem ext1 (s : ByteArray) (i : Nat) (hi : i < s.size) : bytesOf (s.extract i (i + 1)) = [s[i]'hi]:=by
 have h:=byte_at s i hi
 unfold bytesOf at *
 rw [ByteArray.data_extract,Array.toList_extract,List.extract_eq_take_drop]
 have hl:=(List.getElem?_eq_some_iff.1 h).1
 rw [List.drop_eq_getElem_cons hl,(List.getElem?_eq_some_iff.1 h).2]
 simp
theorem s_rd {w : World} {q : Nat} {y : ByteArray} (h : w.heap[q]? = some (.cells #[.string y] 9 (0,0))) : RdZ 1 strE w (.slice (some ⟨q,0,none⟩) 1 1) [y]:=by
 refine ⟨⟨_,1,rfl,Nat.le_refl _,by unfold maxLen; decide,fun _ => ⟨q,0,rfl,(Array.getElem?_eq_some_iff.1 h).1,fun i x j u hi hj => ?_⟩⟩,fun c hc => by cases hc⟩
 have hi0 : i = 0:=by
  have:=(List.getElem?_eq_some_iff.1 hi).1
  simp at this; omega
 subst hi0
 simp at hi
 subst hi
 rw [cell_of_row _ _ _ _ _ (0,0) h]
 simpa [strE] using hj
theorem grownP_below {w0 w w' : World} {B : Nat} {v : Value} (hb : Below B w0 w) (hg : w.grownBy w' v.ownBlock) (hv : ∀ g,v.ownBlock = some g → B ≤ g) (hB : B ≤ w.heap.size) : Below B w0 w' :=
 hb.trans ⟨hg.os,hg.tape,hg.output,hg.size,fun k hk => hg.block k (by omega) (fun e => by have:=hv k e.symm; omega)⟩
theorem belP (w : World) (o : Obj) : Below w.heap.size w (w.alloc o):=(Below.refl _ _).alloc (Nat.le_refl _) _
def FrR (B : Nat) (w : World) (a : Option Addr) (n c : Nat) (l : List ByteArray) : Prop :=
 RdZ 1 strE w (.slice a n c) l ∧ (0 < n → ∃ g o cs,a = some ⟨g,o,none⟩ ∧ B ≤ g ∧ w.heap[g]? = some (.cells cs 9 (0,0)) ∧ o + n ≤ cs.size)
theorem FrR.of_own {B : Nat} {w : World} {a : Option Addr} {n c : Nat} {l : List ByteArray} (h : w.ownsRow B 9 1 (.slice a n c) l.length (l.flatMap strE)) : FrR B w a n c l:=by
 refine ⟨rdZ_own str_len h,fun hn => ?_⟩
 obtain ⟨_,⟨e,_⟩ | ⟨g,cap,cur,e,h1,h2,h3,_,h5,_⟩⟩:=h
 ·cases e; omega
 ·simp only [Value.slice.injEq] at e
  obtain ⟨rfl,rfl,rfl⟩:=e
  exact ⟨g,0,cur,rfl,h1,h2,by omega⟩
theorem FrR.nil (B : Nat) (w : World) : FrR B w none 0 0 []:=⟨RdZ.nil _ _ _,fun h => by omega⟩
theorem FrR.below {B : Nat} {w w' : World} {a : Option Addr} {n c : Nat} {l : List ByteArray} (h : FrR B w a n c l) (hb : Below w.heap.size w w') : FrR B w' a n c l:=by
 refine ⟨h.1.below hb,fun hn => ?_⟩
 obtain ⟨g,o,cs,h1,h2,h3,h4⟩:=h.2 hn
 exact ⟨g,o,cs,h1,h2,(hb.block g (Array.getElem?_eq_some_iff.1 h3).1).trans h3,h4⟩
theorem FrR.mono {B B' : Nat} {w : World} {a : Option Addr} {n c : Nat} {l : List ByteArray} (h : FrR B w a n c l) (hb : B' ≤ B) : FrR B' w a n c l:=⟨h.1,fun hn => by
 obtain ⟨g,o,cs,h1,h2,h3⟩:=h.2 hn
 exact ⟨g,o,cs,h1,by omega,h3⟩⟩
theorem RdZ.take {α : Type} {k : Nat} {enc : α → List Value} {w : World} {a : Option Addr} {n c : Nat} {l : List α} (h : RdZ k enc w (.slice a n c) l) (m : Nat) (hm : m ≤ n) (hc : a = none → c = 0) : RdZ k enc w (.slice a m c) (l.take m):=by
 obtain ⟨hl,h1,h2⟩:=h.len
 obtain ⟨⟨a',c',e,_,_,h4⟩,h5⟩:=h
 simp only [Value.slice.injEq] at e
 obtain ⟨rfl,_,rfl⟩:=e
 have hdl : (l.take m).length = m:=by simp; omega
 refine ⟨⟨_,c,by rw [hdl],by rw [hdl]; omega,h2,fun hne => ?_⟩,fun c' hv => ?_⟩
 ·obtain ⟨b,off,e',hlt,hcell⟩:=h4 (by intro e; subst e; simp at hne)
  refine ⟨b,off,e',hlt,fun t x j u hx hj => ?_⟩
  rw [List.getElem?_take] at hx
  by_cases ht : t < m
  ·rw [if_pos ht] at hx; exact hcell t x j u hx hj
  ·rw [if_neg ht] at hx; cases hx
 ·simp only [Value.slice.injEq] at hv
  obtain ⟨rfl,_,rfl⟩:=hv
  exact hc rfl
def SpOut (w w' : World) (s : ByteArray) (e : Ending) : Prop:=∃ a n c,e = .returned (.tuple #[.slice a n c,.int .i64 (pathE s)]) ∧ FrR w.heap.size w' a n c (pathL s) ∧ Below w.heap.size w w'
def ParOut (w w' : World) (s : ByteArray) (e : Ending) : Prop:=∃ a n c,e = .returned (.tuple #[.slice a n c,.string (parN s),.int .i64 (parE s)]) ∧ FrR w.heap.size w' a n c (parL s) ∧ Below w.heap.size w w'
theorem par_bad {w w' : World} {s : ByteArray} (h : ¬ (pathE s = 0 ∧ pathL s ≠ [])) (hb : Below w.heap.size w w') : ParOut w w' s (.returned (.tuple #[.slice none 0 0,.string ⟨#[]⟩,.int .i64 160])):=by
 have e : parE s = 160:=by unfold parE; rw [if_neg h]
 have e0 : ¬ (160 : Int) = 0:=by decide
 refine ⟨none,0,0,?_,?_,hb⟩
 ·unfold parN; rw [e,if_neg e0]
 ·unfold parL; rw [e,if_neg e0]; exact FrR.nil _ _
theorem par_good {w w' : World} {s : ByteArray} {g o n c : Nat} {cs : Array Value} {x : ByteArray} (hE : pathE s = 0) (h : RdZ 1 strE w' (.slice (some ⟨g,o,none⟩) (n + 1) c) (pathL s)) (hx : (pathL s)[n]? = some x) (hg : w.heap.size ≤ g) (hc : w'.heap[g]? = some (.cells cs 9 (0,0))) (hcs : o + (n + 1) ≤ cs.size) (hb : Below w.heap.size w w') :
  ParOut w w' s (.returned (.tuple #[.slice (some ⟨g,o,none⟩) n c,.string x,.int .i64 0])):=by
 have hl:=h.len.1
 have e : parE s = 0:=by unfold parE; rw [if_pos ⟨hE,fun e => by rw [e] at hl; simp at hl⟩]
 have eL : parL s = (pathL s).take n:=by
  unfold parL; rw [if_pos e,List.dropLast_eq_take,hl]; rfl
 have eN : parN s = x:=by
  unfold parN; rw [if_pos e,List.getLast?_eq_getElem?,hl]
  show ((pathL s)[n]?).getD _ = x
  rw [hx]; rfl
 refine ⟨some ⟨g,o,none⟩,n,c,by rw [e,eN],⟨?_,fun _ => ⟨g,o,cs,rfl,hg,hc,by omega⟩⟩,hb⟩
 rw [eL]
 exact RdZ.take h n (by omega) (fun e => by cases e)
theorem par_goes {w w1 w' : World} {s : ByteArray} {g o n c : Nat} {x : ByteArray} (hE : pathE s = 0) (hf : FrR w.heap.size w1 (some ⟨g,o,none⟩) (n + 1) c (pathL s)) (hx : (pathL s)[n]? = some x) (hb : Below w.heap.size w w1) (hq : Below w1.heap.size w1 w') :
  ParOut w w' s (.returned (.tuple #[.slice (some ⟨g,o,none⟩) n c,.string x,.int .i64 0])):=by
 have hf':=hf.below hq
 obtain ⟨g',o',cs,e,h1,h2,h3⟩:=hf'.2 (by omega)
 cases e
 exact par_good hE hf'.1 hx h1 h2 h3 (hb.trans (hq.mono hb.size))
end Go.Proofs.YtgajjphjkbnaeaaGreat
