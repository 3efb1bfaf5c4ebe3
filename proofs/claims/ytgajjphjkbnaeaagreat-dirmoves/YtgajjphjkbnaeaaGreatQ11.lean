/- OrdMath, PConv, PKey, PKeyAll: in one text. -/
import Derived.Test.YtgajjphjkbnaeaaGreatQ8
import Derived.Test.YtgajjphjkbnaeaaGreatQ2
import Derived.Test.YtgajjphjkbnaeaaGreatQ3
import Derived.Laws.IdiomStrings
namespace Go.Proofs.YtgajjphjkbnaeaaGreat
open Go.RowKit
set_option linter.unusedVariables false
set_option maxHeartbeats 32000000
set_option maxRecDepth 100000
set_option linter.unusedSimpArgs false
structure Ord3 {α : Type} (f : α → α → Int) : Prop where
 three : ∀ a b,f a b = -1 ∨ f a b = 0 ∨ f a b = 1
 turn : ∀ a b,f b a = - f a b
 zero : ∀ a b,f a b = 0 ↔ a = b
 trans : ∀ a b c,f a b = -1 → f b c = -1 → f a c = -1
theorem Ord3.same {α : Type} {f : α → α → Int} (h : Ord3 f) (a : α) : f a a = 0:=(h.zero a a).2 rfl
def lex (x y : Int) : Int:=if x = 0 then y else x
theorem Ord3.lex {α β : Type} {f : α → α → Int} {g : β → β → Int} (hf : Ord3 f) (hg : Ord3 g) : Ord3 (fun p q : α × β => lex (f p.1 q.1) (g p.2 q.2)):=by
 constructor
 ·intro a b
  unfold Go.Proofs.YtgajjphjkbnaeaaGreat.lex
  split
  ·exact hg.three _ _
  ·exact hf.three _ _
 ·intro a b
  unfold Go.Proofs.YtgajjphjkbnaeaaGreat.lex
  have:=hf.turn a.1 b.1
  split
  ·rw [if_pos (by omega)]; exact hg.turn _ _
  ·rw [if_neg (by omega)]; exact this
 ·intro a b
  unfold Go.Proofs.YtgajjphjkbnaeaaGreat.lex
  by_cases h : f a.1 b.1 = 0
  ·rw [if_pos h,hg.zero]
   have:=(hf.zero _ _).1 h
   exact ⟨fun e => Prod.ext this e,fun e => by rw [e]⟩
  ·rw [if_neg h]
   exact ⟨fun e => absurd e h,fun e => absurd (by rw [e]; exact hf.same _) h⟩
 ·intro a b c h1 h2
  unfold Go.Proofs.YtgajjphjkbnaeaaGreat.lex at *
  by_cases e1 : f a.1 b.1 = 0
  ·rw [if_pos e1] at h1
   have q:=(hf.zero _ _).1 e1
   by_cases e2 : f b.1 c.1 = 0
   ·rw [if_pos e2] at h2
    rw [if_pos (by rw [q]; exact e2)]
    exact hg.trans _ _ _ h1 h2
   ·rw [if_neg e2] at h2
    rw [if_neg (by rw [q]; exact e2),q]
    exact h2
  ·rw [if_neg e1] at h1
   by_cases e2 : f b.1 c.1 = 0
   ·have q:=(hf.zero _ _).1 e2
    rw [← q,if_neg e1]
    exact h1
   ·rw [if_neg e2] at h2
    have:=hf.trans _ _ _ h1 h2
    rw [if_neg (by omega)]
    exact this
theorem cmpI_ord : Ord3 cmpI:=by
 constructor
 ·intro a b; unfold cmpI; split
  ·exact .inl rfl
  ·split
   ·exact .inr (.inr rfl)
   ·exact .inr (.inl rfl)
 ·intro a b; unfold cmpI
  rcases Int.lt_trichotomy a b with h | h | h
  ·rw [if_neg (by omega),if_pos h,if_pos h]; rfl
  ·rw [if_neg (by omega),if_neg (by omega),if_neg (by omega),if_neg (by omega)]; rfl
  ·rw [if_pos h,if_neg (by omega),if_pos h]
 ·intro a b; unfold cmpI
  rcases Int.lt_trichotomy a b with h | h | h
  ·rw [if_pos h]; exact ⟨fun e => by omega,fun e => by omega⟩
  ·rw [if_neg (by omega),if_neg (by omega)]; exact ⟨fun _ => h,fun _ => rfl⟩
  ·rw [if_neg (by omega),if_pos h]; exact ⟨fun e => by omega,fun e => by omega⟩
 ·intro a b c h1 h2
  unfold cmpI at *
  have q1 : a < b:=by
   rcases Int.lt_trichotomy a b with h | h | h
   ·exact h
   ·rw [if_neg (by omega),if_neg (by omega)] at h1; omega
   ·rw [if_neg (by omega),if_pos h] at h1; omega
  have q2 : b < c:=by
   rcases Int.lt_trichotomy b c with h | h | h
   ·exact h
   ·rw [if_neg (by omega),if_neg (by omega)] at h2; omega
   ·rw [if_neg (by omega),if_pos h] at h2; omega
  rw [if_pos (by omega)]
def cmpL : List Int → List Int → Int
 | [],[] => 0
 | [],_ :: _ => -1
 | _ :: _,[] => 1
 | a :: x,b :: y => lex (cmpI a b) (cmpL x y)
theorem cmpL_three : ∀ a b : List Int,cmpL a b = -1 ∨ cmpL a b = 0 ∨ cmpL a b = 1
 | [],[] => .inr (.inl rfl)
 | [],_ :: _ => .inl rfl
 | _ :: _,[] => .inr (.inr rfl)
 | a :: x,b :: y => by
  unfold cmpL lex
  split
  ·exact cmpL_three x y
  ·exact cmpI_ord.three a b
theorem cmpL_turn : ∀ a b : List Int,cmpL b a = - cmpL a b
 | [],[] => rfl
 | [],_ :: _ => rfl
 | _ :: _,[] => rfl
 | a :: x,b :: y => by
  unfold cmpL lex
  have:=cmpI_ord.turn a b
  split
  ·rw [if_pos (by omega)]; exact cmpL_turn x y
  ·rw [if_neg (by omega)]; exact this
theorem cmpL_zero : ∀ a b : List Int,cmpL a b = 0 ↔ a = b
 | [],[] => by simp [cmpL]
 | [],_ :: _ => by simp [cmpL]
 | _ :: _,[] => by simp [cmpL]
 | a :: x,b :: y => by
  unfold cmpL lex
  by_cases h : cmpI a b = 0
  ·rw [if_pos h,cmpL_zero x y]
   have:=(cmpI_ord.zero a b).1 h
   subst this
   simp
  ·rw [if_neg h]
   have : ¬ a = b:=fun e => h ((cmpI_ord.zero a b).2 e)
   simp [h,this]
theorem cmpL_trans : ∀ a b c : List Int,cmpL a b = -1 → cmpL b c = -1 → cmpL a c = -1
 | [],[],_,h,_ => by simp [cmpL] at h
 | [],_ :: _,[],_,h => by simp [cmpL] at h
 | [],_ :: _,_ :: _,_,_ => rfl
 | _ :: _,[],_,h,_ => by simp [cmpL] at h
 | _ :: _,_ :: _,[],_,h => by simp [cmpL] at h
 | a :: x,b :: y,c :: z,h1,h2 => by
  unfold cmpL at *
  unfold lex at *
  by_cases e1 : cmpI a b = 0
  ·rw [if_pos e1] at h1
   have q:=(cmpI_ord.zero _ _).1 e1
   subst q
   by_cases e2 : cmpI a c = 0
   ·rw [if_pos e2] at h2 ⊢
    exact cmpL_trans x y z h1 h2
   ·rw [if_neg e2] at h2 ⊢
    exact h2
  ·rw [if_neg e1] at h1
   by_cases e2 : cmpI b c = 0
   ·have q:=(cmpI_ord.zero _ _).1 e2
    subst q
    rw [if_neg e1]
    exact h1
   ·rw [if_neg e2] at h2
    have:=cmpI_ord.trans _ _ _ h1 h2
    rw [if_neg (by omega)]
    exact this
theorem cmpL_ord : Ord3 cmpL:=⟨cmpL_three,cmpL_turn,cmpL_zero,cmpL_trans⟩
theorem less_cmpL : ∀ A B : List Int,Byt A → Byt B → Op.bytesLess (toU A) (toU B) = decide (cmpL A B = -1)
 | [],[],_,_ => by simp [toU,Op.bytesLess,cmpL]
 | [],b :: B,_,_ => by simp [toU,Op.bytesLess,cmpL]
 | a :: A,[],_,_ => by simp [toU,Op.bytesLess,cmpL]
 | a :: A,b :: B,ha,hb => by
  have ih:=less_cmpL A B (fun x hx => ha x (by simp [hx])) (fun x hx => hb x (by simp [hx]))
  obtain ⟨a0,a1⟩:=ha a (by simp)
  obtain ⟨b0,b1⟩:=hb b (by simp)
  have e1 : (UInt8.ofNat a.toNat < UInt8.ofNat b.toNat) = (a < b):=by
   rw [UInt8.lt_iff_toNat_lt]; simp; omega
  have e2 : (UInt8.ofNat a.toNat == UInt8.ofNat b.toNat) = decide (a = b):=by
   rw [Bool.eq_iff_iff,beq_iff_eq,decide_eq_true_iff,← UInt8.toNat_inj]; simp; omega
  show (decide (UInt8.ofNat a.toNat < UInt8.ofNat b.toNat) || (UInt8.ofNat a.toNat == UInt8.ofNat b.toNat && Op.bytesLess (toU A) (toU B))) = _
  rw [ih,e2]
  simp only [e1]
  have hc : cmpL (a :: A) (b :: B) = lex (cmpI a b) (cmpL A B):=rfl
  rw [hc]
  unfold lex cmpI
  rcases Int.lt_trichotomy a b with h | h | h
  ·simp [h]
  ·subst h; simp
  ·have h' : ¬ a < b:=by omega
   have h'' : ¬ a = b:=by omega
   simp [h,h',h'']
theorem toList_toU (s : ByteArray) : s.toList = toU (strB s):=by
 rw [ByteArray.toList_eq]
 unfold toU strB
 rw [List.map_map]
 conv => lhs; rw [← List.map_id s.data.toList]
 apply List.map_congr_left
 intro c _
 simp
theorem strB_inj {s t : ByteArray} (h : strB s = strB t) : s = t:=by
 rw [← strOfNums_strB s,← strOfNums_strB t,h]
theorem cmpS_cmpL (s t : ByteArray) : cmpS s t = cmpL (strB s) (strB t):=by
 unfold cmpS
 rw [toList_toU,toList_toU,less_cmpL _ _ (strB_byt s) (strB_byt t)]
 have he : (toU (strB s) == toU (strB t)) = decide (strB s = strB t):=by
  rw [Bool.eq_iff_iff,beq_iff_eq,decide_eq_true_iff]
  exact ⟨fun h => toU_inj _ _ (strB_byt s) (strB_byt t) h,fun h => by rw [h]⟩
 rw [he]
 rcases cmpL_three (strB s) (strB t) with h | h | h
 ·simp [h]
 ·have:=(cmpL_zero _ _).1 h
  rw [h,if_neg (by decide),if_pos (by simpa using this)]
 ·have : ¬ strB s = strB t:=fun e => by rw [(cmpL_zero _ _).2 e] at h; omega
  simp [h,this]
theorem orL_lex (x0 x1 x2 x3 : Int) : orL [x0,x1,x2,x3] = lex x0 (lex x1 (lex x2 x3)):=by
 unfold lex
 simp only [orL]
 by_cases h : x3 = 0
 ·simp [h]
 ·simp [h]
theorem cmpP_lex (a b : Pl) : cmpP a b = lex (cmpI a.ino b.ino) (lex (cmpI a.part b.part) (lex (cmpL (strB a.name) (strB b.name)) (cmpI a.chunk b.chunk))):=by
 unfold cmpP
 rw [orL_lex,cmpS_cmpL]
theorem cmpP_ord : Ord3 cmpP:=by
 have h:=cmpI_ord.lex (cmpI_ord.lex (cmpL_ord.lex cmpI_ord))
 have key : ∀ a b : Pl,cmpP a b = (fun p q : Int × Int × List Int × Int => lex (cmpI p.1 q.1) (lex (cmpI p.2.1 q.2.1) (lex (cmpL p.2.2.1 q.2.2.1) (cmpI p.2.2.2 q.2.2.2)))) (a.ino,a.part,strB a.name,a.chunk) (b.ino,b.part,strB b.name,b.chunk):=fun a b => cmpP_lex a b
 constructor
 ·intro a b; rw [key]; exact h.three _ _
 ·intro a b; rw [key,key]; exact h.turn _ _
 ·intro a b
  rw [key,h.zero]
  obtain ⟨i,k,s,c⟩:=a
  obtain ⟨i',k',s',c'⟩:=b
  simp only [Prod.mk.injEq,Pl.mk.injEq]
  exact ⟨fun ⟨h1,h2,h3,h4⟩ => ⟨h1,h2,strB_inj h3,h4⟩,fun ⟨h1,h2,h3,h4⟩ => ⟨h1,h2,by rw [h3],h4⟩⟩
 ·intro a b c h1 h2
  rw [key] at h1 h2 ⊢
  exact h.trans _ _ _ h1 h2
theorem strOfNums_size (xs : List Int) : (strOfNums xs).size = xs.length:=by
 have : (strOfNums xs).data.toList.length = xs.length:=by rw [strOfNums_data]; simp
 rw [← this]
 rw [Array.length_toList]
 rfl
theorem conv_bytes (w : World) (s : ByteArray) (hs : s.size ≤ 1024) : ∃ v w',(convert 9 152 (.string s)).run Tryz.prog w = .ok v w' ∧ Rd w' v (strB s) ∧ Below w.heap.size w w':=by
 refine ⟨_,_,run_bytes_of_string w 9 152 5 s Tryz.underlying9 Tryz.underlying152 Tryz.underlying5,?_,(Below.refl _ w).drew.alloc (Nat.le_refl _) _⟩
 have hge:=grownCap_ge w s.size 0 5
 have hle:=grownCap_le_maxLen w s.size 0 5 (by unfold maxLen; omega)
 have hl:=strB_length s
 refine ⟨_,_,by rw [hl],by rw [hl]; exact hge,hle,(by intro e; cases e),fun hne => ⟨_,0,rfl,by simp,fun i hi => ?_⟩⟩
 rw [hl] at hi
 have hh : (w.drew.alloc (Obj.cells (bytesRow s (grownCap w s.size 0 5)) 5 ((bytesRow s (grownCap w s.size 0 5)).size,(bytesRow s (grownCap w s.size 0 5)).size + 1))).heap[w.heap.size]? = some (Obj.cells (bytesRow s (grownCap w s.size 0 5)) 5 ((bytesRow s (grownCap w s.size 0 5)).size,(bytesRow s (grownCap w s.size 0 5)).size + 1)):=heap_alloc_new w.drew _
 rw [Nat.zero_add,cell_of_row _ _ i _ 5 _ hh]
 have hi' : i < s.data.size:=hi
 unfold bytesRow
 rw [Array.getElem?_append_left (by simpa using hi'),Array.getElem?_map,Array.getElem?_eq_getElem hi',List.getD_eq_getElem?_getD]
 unfold strB
 rw [List.getElem?_map,Array.getElem?_toList,Array.getElem?_eq_getElem hi']
 rfl
def keyL (i k : Int) (rest : List Int) : List Int:=fixB i.toNat 4 ++ (k % 256) :: (rest ++ List.replicate (9 - rest.length) 0)
theorem keyL_length (i k : Int) (rest : List Int) (h : rest.length ≤ 9) : (keyL i k rest).length = 14:=by
 unfold keyL
 rw [List.length_append,fixB_length,List.length_cons,List.length_append,List.length_replicate]
 omega
theorem copy_new {w : World} {g o dLen dCap : Nat} {cur : List Int} (hg : w.heap[g]? = some (.cells (cur.map (Value.int .u8)).toArray 5 (0,0))) {v : Value} {xs : List Int} (hr : Rd w v xs) (hle : xs.length ≤ dLen) (hfit : o + xs.length ≤ cur.length) :
  ∃ w',(Builtin.copy_ #[152,152] 3 #[.slice (some ⟨g,o,none⟩) dLen dCap,v]).run Tryz.prog w = .ok (goInt xs.length) w' ∧
   w'.heap[g]? = some (.cells ((cur.take o ++ xs ++ cur.drop (o + xs.length)).map (Value.int .u8)).toArray 5 (0,0)) ∧ (∀ B w0,Below B w0 w → B ≤ g → Below B w0 w'):=by
 refine ⟨_,copy_rd w g o dLen dCap _ 5 hg v xs hr hle (by simpa using hfit),?_,fun B w0 hb hB => below_setRow hb hB _⟩
 rw [setRow_heap w g _ _ 5 (0,0) hg]
 congr 3
 simp
theorem keyL_row (A rest : List Int) (h : A.length = 4) (hr : rest.length ≤ 9) (z : Int) :
  (((List.replicate 14 (0 : Int)).take 0 ++ A ++ (List.replicate 14 0).drop (0 + A.length)).set 4 z).take 5 ++ rest ++ (((List.replicate 14 (0 : Int)).take 0 ++ A ++ (List.replicate 14 0).drop (0 + A.length)).set 4 z).drop (5 + rest.length) = A ++ z :: (rest ++ List.replicate (9 - rest.length) 0):=by
 match A,h with
 | [a,b,c,d],_ =>
  simp [List.replicate,List.drop]
  rw [show 5 + rest.length = rest.length + 1 + 1 + 1 + 1 + 1 from by omega]
  simp only [List.drop_succ_cons]
  have:=List.drop_replicate (i:=rest.length) (n:=9) (a:=(0 : Int))
  simpa [List.replicate] using this
theorem keyOf_any (w : World) (i k : Int) (v : Value) (rest : List Int) (h0 : 0 ≤ i) (h1 : i ≤ 4294967295) (hr : Rd w v rest) (hy : Byt rest) (hl : rest.length ≤ 9) :
  Calls Tryz.prog 99 #[.int .u32 i,.int .i64 k,v] w fun e w' => e = .returned (.string (strOfNums (keyL i k rest))) ∧ Below w.heap.size w w':=by
 have hmk:=make_bytes w 14 14 rfl (by omega)
 obtain ⟨wa,hwa⟩ : ∃ wa,wa = w.alloc (.cells (List.replicate 14 (Value.int .u8 0)).toArray 5):=⟨_,rfl⟩
 rw [← hwa] at hmk
 have hba : Below w.heap.size w wa:=by rw [hwa]; exact (Below.refl _ _).alloc (Nat.le_refl _) _
 have hga : wa.heap[w.heap.size]? = some (.cells ((List.replicate 14 (0 : Int)).map (Value.int .u8)).toArray 5 (0,0)):=by rw [hwa,List.map_replicate]; exact heap_alloc_new w _
 have hgl : w.heap.size < wa.heap.size:=(Array.getElem?_eq_some_iff.1 hga).1
 clear hwa
 go_enter Tryz.func99,Tryz.ntmps99
 go_wp2_with fail
 refine (fixed4_any wa i h0 h1).mono ?_
 rintro e w2 ⟨v2,rfl,ho2,hb2⟩
 have hg2:=(hb2.block _ hgl).trans hga
 obtain ⟨w3,hcp,hg3,hk3⟩:=copy_new (o:=0) (dLen:=14) (dCap:=14) hg2 ho2.rd (by rw [fixB_length]; omega) (by rw [fixB_length]; simp)
 have hb3 : Below w.heap.size w w3:=hk3 _ _ (thenB hba hb2) (Nat.le_refl _)
 have hlen3 : ((List.replicate 14 (0 : Int)).take 0 ++ fixB i.toNat 4 ++ (List.replicate 14 0).drop (0 + (fixB i.toNat 4).length)).length = 14:=by simp [fixB_length]
 obtain ⟨C3,hC3⟩ : ∃ C3,C3 = (List.replicate 14 (0 : Int)).take 0 ++ fixB i.toNat 4 ++ (List.replicate 14 0).drop (0 + (fixB i.toNat 4).length):=⟨_,rfl⟩
 rw [← hC3] at hg3 hlen3
 have c4:=row_cell (j:=4) hg3 (by omega)
 have f4 : w3.frozen? ⟨w.heap.size,4,none⟩ = false:=by simp [World.frozen?,hg3]
 have hg4:=row_set (j:=4) hg3 (k % 256)
 have hb4 : Below w.heap.size w (w3.setCell ⟨w.heap.size,4,none⟩ (.int .u8 (k % 256))):=hb3.setCell (Nat.le_refl _) _
 obtain ⟨w5,hcp5,hg5,hk5⟩:=copy_new (o:=5) (dLen:=9) (dCap:=9) hg4 (hr.below hb4) hl (by simp; omega)
 have hb5 : Below w.heap.size w w5:=hk5 _ _ hb4 (Nat.le_refl _)
 rw [hC3,keyL_row _ _ (fixB_length _ _) hl] at hg5
 have hrd : Rd w5 (.slice (some ⟨w.heap.size,0,none⟩) 14 14) (keyL i k rest):=by
  refine ⟨_,14,by rw [keyL_length i k rest hl],by rw [keyL_length i k rest hl]; omega,by unfold maxLen; omega,(by intro e; cases e),fun _ => ⟨_,_,rfl,(Array.getElem?_eq_some_iff.1 hg5).1,fun j hj => ?_⟩⟩
  rw [Nat.zero_add]
  exact row_cell hg5 hj
 have hcv:=hrd.conv
 clear hmk hga hr hy hba hg2 hg3 hk3 hb3 hg4 hb4 hg5 hk5 hrd hb2 ho2 hC3
 go_wp2
 go_ret
 exact ⟨rfl,hb5⟩
def restP (p : Pl) : List Int:=if p.part = 3 then fixB p.chunk.toNat 4 else strB p.name
def keyP (p : Pl) : List Int:=keyL p.ino p.part (restP p)
def keyS (p : Pl) : ByteArray:=if plOk p then strOfNums (keyP p) else ⟨#[]⟩
theorem plOk_cases {p : Pl} (h : plOk p = true) : p.ino ≠ 0 ∧ ((p.part = 1 ∧ p.name.toList = [] ∧ p.chunk = 0) ∨ (p.part = 2 ∧ nameOk p.name = true ∧ p.chunk = 0) ∨ (p.part = 3 ∧ p.name.toList = [] ∧ p.chunk < 16)):=by
 unfold plOk at h
 simp only [Bool.and_eq_true,Bool.or_eq_true,Bool.not_eq_true',beq_iff_eq,decide_eq_true_iff] at h
 obtain ⟨h0,h⟩:=h
 refine ⟨by simpa using h0,?_⟩
 rcases h with (⟨⟨a,b⟩,c⟩ | ⟨⟨a,b⟩,c⟩) | ⟨⟨a,b⟩,c⟩
 ·exact .inl ⟨a,b,c⟩
 ·exact .inr (.inl ⟨a,b,c⟩)
 ·exact .inr (.inr ⟨a,b,c⟩)
theorem size_toList (s : ByteArray) : s.toList.length = s.size:=by rw [ByteArray.toList_eq,Array.length_toList]; rfl
theorem nameOk_size {s : ByteArray} (h : nameOk s = true) : 1 ≤ s.size ∧ s.size ≤ 8:=by
 unfold nameOk at h
 simp only [Bool.and_eq_true,decide_eq_true_iff] at h
 exact ⟨h.1.1.1.1.1,h.1.1.1.1.2⟩
theorem plOk_size {p : Pl} (h : plOk p = true) : p.name.size ≤ 8:=by
 obtain ⟨_,⟨_,hs,_⟩ | ⟨_,hs,_⟩ | ⟨_,hs,_⟩⟩:=plOk_cases h
 ·rw [← size_toList,hs]; exact Nat.zero_le _
 ·exact (nameOk_size hs).2
 ·rw [← size_toList,hs]; exact Nat.zero_le _
theorem restP_length {p : Pl} (h : plOk p = true) : (restP p).length ≤ 9:=by
 unfold restP
 split
 ·rw [fixB_length]; omega
 ·rw [strB_length]; have:=plOk_size h; omega
theorem restP_byt (p : Pl) : Byt (restP p):=by
 unfold restP
 split
 ·exact fixB_byt _ _
 ·exact strB_byt _
theorem key_any (w : World) (p : Pl) (hp : PlOk p) : Calls Tryz.prog 94 #[plV p] w fun e w' => e = .returned (.tuple #[.string (keyS p),.int .i64 (plE p)]) ∧ Below w.heap.size w w':=by
 have hck : ∀ W,Calls Tryz.prog 111 #[.agg #[.int .u32 p.ino,.int .i64 p.part,.string p.name,.int .u32 p.chunk]] W fun e w' => e = .returned (.int .i64 (plE p)) ∧ Below W.heap.size W w':=fun W => check_any W p hp
 obtain ⟨w1,hw1⟩ : ∃ w1,w1 = w.alloc (.cells #[.int .u32 p.ino,.int .i64 p.part,.string p.name,.int .u32 p.chunk] 110):=⟨_,rfl⟩
 have hb1 : Below w.heap.size w w1:=by rw [hw1]; exact (Below.refl _ _).alloc (Nat.le_refl _) _
 have hp1 : PlAt w1 w.heap.size p:=by rw [hw1]; exact PlAt.laid w p
 obtain ⟨h0,h1,_,_,_,h2,h3⟩:=hp
 unfold plV
 cases hok : plOk p
 ·have e1 : plE p = 30:=by unfold plE; rw [hok]; rfl
  have e2 : keyS p = ⟨#[]⟩:=by unfold keyS; rw [hok]; rfl
  rw [e1] at hck ⊢
  rw [e2]
  go_enter Tryz.func94,Tryz.ntmps94
  go_wp2_with fail
  rw [← hw1]
  refine (hck _).mono ?_
  rintro e w2 ⟨rfl,hb2⟩
  go_wp2
  go_ret2
  exact ⟨rfl,thenB hb1 hb2⟩
 ·have e1 : plE p = 0:=by unfold plE; rw [hok]; rfl
  have e2 : keyS p = strOfNums (keyL p.ino p.part (restP p)):=by unfold keyS; rw [hok]; rfl
  have hrl:=restP_length hok
  have hrb:=restP_byt p
  have hsz:=plOk_size hok
  rw [e1] at hck ⊢
  rw [e2]
  by_cases hpt : p.part = 3
  ·have hrest : restP p = fixB p.chunk.toNat 4:=if_pos hpt
   rw [hrest] at hrl hrb ⊢
   clear hok e1 e2 hsz hrest
   obtain ⟨i,k,s,c⟩:=p
   dsimp only at *
   subst hpt
   go_enter Tryz.func94,Tryz.ntmps94
   go_wp2_with fail
   rw [← hw1]
   refine (hck _).mono ?_
   rintro e w2 ⟨rfl,hb2⟩
   have c1:=(hp1.below hb2).c1
   have q0 : ∀ W,Below w2.heap.size w2 W → W.cell? ⟨w.heap.size,0,none⟩ = some (.int .u32 i):=fun W hW => ((hp1.below hb2).below hW).c0
   have q1 : ∀ W,Below w2.heap.size w2 W → W.cell? ⟨w.heap.size,1,none⟩ = some (.int .i64 3):=fun W hW => ((hp1.below hb2).below hW).c1
   have q3 : ∀ W,Below w2.heap.size w2 W → W.cell? ⟨w.heap.size,3,none⟩ = some (.int .u32 c):=fun W hW => ((hp1.below hb2).below hW).c3
   clear hck hw1
   go_wp2_with fail
   refine wp_region_noPanic ?_
   go_region_held (fun W => Below w2.heap.size w2 W) (first | assumption | exact (Below.refl _ _).drew | exact keep2 (by assumption) (by assumption))
    (first
     | (go_at_call 112; refine (fixed4_any _ _ h2 h3).mono ?_; rintro e w3 ⟨v3,rfl,ho3,hb3⟩)
     | (go_at_call 99; refine (keyOf_any _ _ _ _ _ h0 h1 ho3.rd hrb hrl).mono ?_; rintro e w4 ⟨rfl,hb4⟩))
   refine NoPanic.normal ?_
   clear q0 q1 q3 c1
   go_wp2
   go_ret2
   exact ⟨rfl,thenB hb1 (thenB hb2 (by assumption))⟩
  ·have hrest : restP p = strB p.name:=if_neg hpt
   rw [hrest] at hrl hrb ⊢
   have hpt' : (p.part == 3) = false:=by simpa using hpt
   clear hok e1 e2 hrest
   go_enter Tryz.func94,Tryz.ntmps94
   go_wp2_with fail
   rw [← hw1]
   refine (hck _).mono ?_
   rintro e w2 ⟨rfl,hb2⟩
   have c0:=(hp1.below hb2).c0
   have c1:=(hp1.below hb2).c1
   have c2:=(hp1.below hb2).c2
   obtain ⟨v3,w3,hcv,hrd,hb3⟩:=conv_bytes w2 p.name (by omega)
   clear hck hw1
   go_wp2_with fail
   refine (keyOf_any w3 _ _ _ _ h0 h1 hrd hrb hrl).mono ?_
   rintro e w4 ⟨rfl,hb4⟩
   clear c0 c1 c2 hcv
   go_wp2
   go_ret2
   exact ⟨rfl,thenB hb1 (thenB hb2 (thenB hb3 hb4))⟩
end Go.Proofs.YtgajjphjkbnaeaaGreat
