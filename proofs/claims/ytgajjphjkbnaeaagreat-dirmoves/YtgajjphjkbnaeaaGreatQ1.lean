/- Nz, Base, Laws, NumMath: in one text. -/
import Derived.Deep.RegionHeld3
import Derived.Test.YtgajjphjkbnaeaaGreatRows
import Derived.WalkKit
import Derived.WalkSpells
import Derived.WalkLawsBesides
import Derived.Laws.BytesArg
import Derived.Lib.AppendStr
import Derived.Laws.CopyOwn
import Derived.OpenShut
import Derived.Lib.BufferWrite
import Derived.Deep.WholeRow
import Derived.Lib.SlBytesConst
import Derived.Laws.AppendOwnNone
import Derived.Deep.AppendSrc
import Derived.Stop.BytesEq
import Derived.Laws.BitsAllLaws
namespace Go.Proofs.YtgajjphjkbnaeaaGreat
open Go.RowKit
set_option linter.unusedVariables false
set_option maxHeartbeats 32000000
set_option maxRecDepth 100000
set_option linter.unusedSimpArgs false
theorem nz : (∀ {α : Type} (l : List α) (i : Nat) (h : i < l.toArray.size),l.toArray[i]'h = l[i]'(by simpa using h)) ∧ (∀ {α : Type} (a : α) (t : List α) (h : 0 < (a :: t).length),(a :: t)[0]'h = a) ∧ (∀ {α : Type} (a : α) (t : List α) (i : Nat) (h : i + 1 < (a :: t).length),(a :: t)[i + 1]'h = t[i]'(by simpa using h)) ∧ (∀ {α : Type} (l : List α) (i : Nat) (a : α),l.toArray.setIfInBounds i a = (l.set i a).toArray) ∧ (∀ {α : Type} (x a : α) (xs : List α),(x :: xs).set 0 a = a :: xs) ∧ (∀ {α : Type} (x a : α) (xs : List α) (i : Nat),(x :: xs).set (i + 1) a = x :: xs.set i a) ∧ (∀ (a : Act) (i : Nat) (v : Value),Act.put a (some i) v = { a with tmps:=a.tmps.setIfInBounds i v }) ∧ (∀ (a : Act) (v : Value),Act.put a none v = a) :=
 ⟨fun _ _ _ => rfl,fun _ _ _ => rfl,fun _ _ _ _ => rfl,fun _ _ _ => by simp,fun _ _ _ => rfl,fun _ _ _ _ => rfl,fun _ _ _ => rfl,fun _ _ => rfl⟩
theorem tk {P : Program} {ops : Array Oper} {Q : Exit → Act → World → Prop} {md : Region.Mode} {S : World → Prop} {oi : Oper} {fuel : Nat} {listed : Array Bool} {a : Act} {w : World} (i : Nat) (v : Value) (hi : ops[i]? = some oi)
  (h : wpAnyH P md ops Q S fuel (listed.setIfInBounds i true) (a.put oi.dst v) w) (hy : ∀ W,S W → (execOp a.eval oi).run P W = .ok (.value v) W:=by intro W hSw; (try dsimp only at hSw); go_simp)
  (hw : Region.wanted oi (yielded ops a.tmps) = true:=by rfl) (hs : Region.noSelect ops = true:=by kernel_rfl) (hf : Region.free md ops listed i = true:=by kernel_rfl) (hr : (Region.ready md ops listed).contains i = true:=by kernel_rfl)
  (hQ : ∀ c a w,Q (.panic c) (a.put oi.dst v) w → Q (.panic c) a w:=by exact fun _ _ _ h => h) (hS : S w:=by assumption) : wpAnyH P md ops Q S (fuel + 1) listed a w :=
 wpAnyH_take hi hs hf hr hQ (Or.inl ⟨hw,hy⟩) hS h
theorem rd {P : Program} {ops : Array Oper} {Q : Exit → Act → World → Prop} {md : Region.Mode} {S : World → Prop} {o : Oper} {fuel : Nat} {listed : Array Bool} {a : Act} {w : World} (i : Nat) (ho : ops[i]? = some o)
  (h : ∀ K' : Act → World → Prop,Shut (∀ a w,S w → (S w → wpAnyH P md ops Q S fuel (listed.setIfInBounds i true) a w) → K' a w) → if Region.wanted o (yielded ops a.tmps) = true then Oper.wp P o a w K' Q else K' (a.put o.dst undef) w)
  (hr : Region.ready md ops listed = [i]:=by kernel_rfl) : wpAnyH P md ops Q S (fuel + 1) listed a w :=
 wpAnyH_ready hr (by simp) (AllReadyH.cons ho h AllReadyH.nil)
def Rd (w : World) (v : Value) (xs : List Int) : Prop :=
 ∃ a cap,v = .slice a xs.length cap ∧ xs.length ≤ cap ∧ cap ≤ maxLen ∧ (a = none → cap = 0) ∧ (xs ≠ [] → ∃ b off,a = some ⟨b,off,none⟩ ∧ b < w.heap.size ∧ ∀ i,i < xs.length → w.cell? ⟨b,off + i,none⟩ = some (.int .u8 (xs.getD i 0)))
def Byt (xs : List Int) : Prop:=∀ x ∈ xs,0 ≤ x ∧ x ≤ 255
theorem Rd.below {w w' : World} {v : Value} {xs : List Int} (h : Rd w v xs) (hb : Below w.heap.size w w') : Rd w' v xs:=by
 obtain ⟨a,cap,rfl,h1,h2,hnn,h3⟩:=h
 refine ⟨a,cap,rfl,h1,h2,hnn,fun hne => ?_⟩
 obtain ⟨b,off,rfl,hlt,hc⟩:=h3 hne
 exact ⟨b,off,rfl,Nat.lt_of_lt_of_le hlt hb.size,fun i hi => (hb.cell (p:=⟨b,off + i,none⟩) hlt).trans (hc i hi)⟩
theorem Rd.nil (w : World) : Rd w (.slice none 0 0) []:=⟨none,0,rfl,by simp,by simp,fun _ => rfl,fun h => absurd rfl h⟩
theorem Byt.nil : Byt []:=fun x hx => by cases hx
theorem Byt.getD {xs : List Int} (h : Byt xs) (i : Nat) : 0 ≤ xs.getD i 0 ∧ xs.getD i 0 ≤ 255:=by
 rcases Nat.lt_or_ge i xs.length with hi | hi
 ·rw [List.getD_eq_getElem?_getD,List.getElem?_eq_getElem hi]; exact h _ (List.getElem_mem hi)
 ·rw [List.getD_eq_getElem?_getD,List.getElem?_eq_none hi]; simp
theorem Byt.take {xs : List Int} (h : Byt xs) (i : Nat) : Byt (xs.take i):=fun x hx => h x (List.mem_of_mem_take hx)
theorem Byt.drop {xs : List Int} (h : Byt xs) (i : Nat) : Byt (xs.drop i):=fun x hx => h x (List.mem_of_mem_drop hx)
theorem Byt.append {xs ys : List Int} (h : Byt xs) (k : Byt ys) : Byt (xs ++ ys):=fun x hx => (List.mem_append.1 hx).elim (h x) (k x)
theorem Byt.set {xs : List Int} (h : Byt xs) (j : Nat) (z : Int) (h0 : 0 ≤ z) (h1 : z ≤ 255) : Byt (xs.set j z):=by
 intro x hx
 rcases List.mem_or_eq_of_mem_set hx with hx | rfl
 ·exact h x hx
 ·exact ⟨h0,h1⟩
def Own (w : World) (base : Nat) (v : Value) (xs : List Int) : Prop:=w.ownsRow base 5 1 v xs.length (xs.map (Value.int .u8))
theorem Own.nil (w : World) (base : Nat) : Own w base (.slice none 0 0) []:=World.ownsRow_nil _ _ _ _
theorem Own.rd {w : World} {base : Nat} {v : Value} {xs : List Int} (h : Own w base v xs) : Rd w v xs:=by
 obtain ⟨h1,h2⟩:=h
 rcases h2 with ⟨rfl,hn⟩ | ⟨g,cap,cur,rfl,hb,hg,hn,hm,hs,ht⟩
 ·have : xs = []:=List.eq_nil_of_length_eq_zero hn
  subst this
  exact Rd.nil w
 ·refine ⟨_,cap,rfl,hn,hm,(by intro e; cases e),fun _ => ⟨g,0,rfl,(Array.getElem?_eq_some_iff.1 hg).1,fun i hi => ?_⟩⟩
  rw [Nat.zero_add,cell_of_row w g i cur 5 (0,0) hg]
  have e:=congrArg (fun l : List Value => l[i]?) ht
  simp only [List.getElem?_take,Nat.mul_one,hi,if_true,List.getElem?_map] at e
  rw [← Array.getElem?_toList,e]
  simp [List.getElem?_eq_getElem hi]
theorem Own.below {w w' : World} {base : Nat} {v : Value} {xs : List Int} (h : Own w base v xs) (hb : Below w.heap.size w w') : Own w' base v xs :=
 World.ownsRow.kept h (row:=Option.none) ⟨hb.os,hb.tape,hb.output,hb.size,fun k hk _ => hb.block k hk⟩ (by cases hv : v.ownBlock <;> simp)
theorem Own.mono {w : World} {base base' : Nat} {v : Value} {xs : List Int} (h : Own w base v xs) (hb : base' ≤ base) : Own w base' v xs:=by
 obtain ⟨h1,h2⟩:=h
 refine ⟨h1,?_⟩
 rcases h2 with h2 | ⟨g,cap,cur,hv,hg,r⟩
 ·exact .inl h2
 ·exact .inr ⟨g,cap,cur,hv,Nat.le_trans hb hg,r⟩
theorem Own.laid {w : World} {cs : Array Value} {n : Nat} {xs : List Int} (hn : n = xs.length) (hm : n ≤ maxLen) (hc : cs.toList = xs.map (Value.int .u8)) :
  Own (w.alloc (.cells cs 5)) w.heap.size (.slice (some ⟨w.heap.size,0,none⟩) n n) xs:=by
 subst hn
 refine ⟨by simp,.inr ⟨w.heap.size,xs.length,cs,rfl,Nat.le_refl _,heap_alloc_new w _,Nat.le_refl _,hm,?_,?_⟩⟩
 ·rw [← Array.length_toList,hc]; simp
 ·rw [hc]; exact List.take_of_length_le (by simp)
theorem rd_length {w : World} {a : Option Addr} {len cap : Nat} {xs : List Int} (h : Rd w (.slice a len cap) xs) : xs.length = len:=by
 obtain ⟨a',cap',e,_⟩:=h
 simp only [Value.slice.injEq] at e
 exact e.2.1.symm
theorem Tryz.info5 : (Tryz.prog.info? 5).map (fun i => (i.zero,i.size,i.bytes)) = some (some (.int .u8 0),1,1):=by kernel_rfl
theorem make_bytes (w : World) (L : Int) (n : Nat) (hL : L = (n : Int)) (hn : n ≤ 140737488355328) :
  (Instr.makeSlice 152 (.int .i64 L) (.int .i64 L)).run Tryz.prog w = .ok (.slice (some ⟨w.heap.size,0,none⟩) n n) (w.alloc (.cells (List.replicate n (Value.int .u8 0)).toArray 5)):=by
 subst hL
 obtain ⟨i,hi,hz0,hz1,hz2⟩:=info_parts Tryz.info5
 have h:=run_make (P:=Tryz.prog) w 152 5 i (.int .u8 0) Tryz.underlying152 hi hz0 .i64 .i64 n n (by omega) (by omega) (by rw [hz2]; omega) (by omega)
 rw [h,hz1,Int.toNat_natCast,Nat.mul_one]
 congr 2
 congr 1
 apply Array.ext'
 exact toList_madeCells_one (.int .u8 0) n
def strB (s : ByteArray) : List Int:=s.data.toList.map fun c => (c.toNat : Int)
theorem strB_length (s : ByteArray) : (strB s).length = s.size:=by
 rw [strB,List.length_map,Array.length_toList]
 rfl
theorem strB_byt (s : ByteArray) : Byt (strB s):=by
 intro x hx
 simp only [strB,List.mem_map] at hx
 obtain ⟨c,_,rfl⟩:=hx
 have:=c.toNat_lt
 omega
theorem strOfNums_strB (s : ByteArray) : strOfNums (strB s) = s:=by
 obtain ⟨d⟩:=s
 have h : (strB ⟨d⟩).map (fun n => UInt8.ofNat n.toNat) = d.toList:=by
  simp only [strB,List.map_map]
  rw [show ((fun n : Int => UInt8.ofNat n.toNat) ∘ fun c : UInt8 => (c.toNat : Int)) = id from funext fun c => by simp]
  exact List.map_id _
 unfold strOfNums
 rw [h]
theorem conv_none (w : World) (a : Option Addr) (k : Nat) : (convert 152 9 (.slice a 0 k)).run Tryz.prog w = .ok (.string ⟨#[]⟩) w:=by
 cases a with
 | none => exact run_convert_bytes_nil w 152 5 Tryz.underlying152 Tryz.underlying5 0 k 9 Tryz.underlying9
 | some x =>
  rw [run_convert_bytes_string w 152 9 5 _ 0 k Tryz.underlying152 Tryz.underlying5 Tryz.underlying9]
  exact run_bytesToString w x 0 k [] (by simpa using run_loadCells_list (P:=Tryz.prog) w x [] (fun j v hj => by simp at hj))
theorem Rd.conv {w : World} {v : Value} {xs : List Int} (h : Rd w v xs) : (convert 152 9 v).run Tryz.prog w = .ok (.string (strOfNums xs)) w:=by
 obtain ⟨a,cap,rfl,h1,h2,_,h3⟩:=h
 cases xs with
 | nil => exact conv_none w a cap
 | cons x r =>
  obtain ⟨b,off,rfl,hlt,hc⟩:=h3 (by simp)
  exact run_convert_bytes_arg w 152 5 Tryz.underlying152 Tryz.underlying5 b off _ cap (x :: r) rfl hc 9 Tryz.underlying9
theorem Rd.laid {w : World} {cs : Array Value} {n : Nat} {xs : List Int} {fr : Nat × Nat} (hn : n = xs.length) (hm : n ≤ maxLen) (hc : cs.toList = xs.map (Value.int .u8)) :
  Rd (w.alloc (.cells cs 5 fr)) (.slice (some ⟨w.heap.size,0,none⟩) n n) xs:=by
 subst hn
 refine ⟨_,_,rfl,Nat.le_refl _,hm,(by intro e; cases e),fun _ => ⟨_,_,rfl,by simp,fun i hi => ?_⟩⟩
 rw [Nat.zero_add,cell_of_row _ _ i cs 5 fr (heap_alloc_new w _),← Array.getElem?_toList,hc]
 simp [List.getElem?_eq_getElem hi]
theorem wpList_append_rd {w : World} {ops : Array Oper} {rest : List Oper} {o : Oper} {a : Act} {Q : Exit → Act → World → Prop} (hgd : o.guard = none) (s x : Operand)
  (ho : o.op = .call { callee:=.builtin .append,args:=#[s,x],argTypes:=#[152,152] }) (base : Nat)
  (v : Value) (xs : List Int) (hs : a.eval s = v) (hown : Own w base v xs) (u : Value) (ys : List Int) (hx : a.eval x = u) (hrd : Rd w u ys)
  (hlen : xs.length + ys.length ≤ 140737488355328) (hbase : base ≤ w.heap.size)
  (h : ∀ v' w',Own w' base v' (xs ++ ys) → w.grownBy w' v.ownBlock → wpList Tryz.prog ops Q rest (a.put o.dst v') w') : wpList Tryz.prog ops Q (o :: rest) a w:=by
 obtain ⟨i,hi,hz0,hz1,hz2⟩:=info_parts Tryz.info5
 obtain ⟨ad,cap,rfl,h1,h2,hnn,h3⟩:=hrd
 cases ad with
 | none =>
  obtain rfl:=hnn rfl
  have hl : ys.length = 0:=by omega
  obtain rfl : ys = []:=List.eq_nil_of_length_eq_zero hl
  refine wpList_append_own_none hgd s x 152 ho base 5 i 1 Tryz.underlying152 hi v _ _ hs hown hx ?_
  exact h v w (by rw [List.append_nil]; exact hown) (World.grownBy.refl _ _)
 | some ad =>
  refine wpList_append_own w hgd s x 152 ho base 5 i (.int .u8 0) 1 1 Tryz.underlying152 hi hz0 hz1 hz2 rfl (by decide) v _ _ hs hown ad ys.length cap (ys.map (Value.int .u8)) hx (by simp) ?_ (ints_oneCell _ _) ?_ ?_ hbase ?_
  ·intro j u hj
   have hj' : j < ys.length:=by
    rcases Nat.lt_or_ge j ys.length with h | h
    ·exact h
    ·rw [List.getElem?_eq_none (by simpa using h)] at hj; cases hj
   obtain ⟨b,off,e,hlt,hc⟩:=h3 (by intro e; subst e; simp at hj')
   simp only [Option.some.injEq] at e
   subst e
   have hadd : (⟨b,off,none⟩ : Addr).add j = ⟨b,off + j,none⟩:=by unfold Addr.add; split <;> simp_all
   rw [hadd,hc j hj']
   rw [← hj]
   simp [List.getElem?_eq_getElem hj']
  ·unfold maxLen; omega
  ·omega
  ·intro v' w' ho' hg _
   refine h v' w' ?_ hg
   unfold Own
   rw [List.length_append,List.map_append]
   exact ho'
theorem Rd.len {w : World} {v : Value} {xs : List Int} (h : Rd w v xs) (W : World) : (Builtin.len_ #[152] 3 #[v]).run Tryz.prog W = .ok (.int .i64 xs.length) W:=by
 obtain ⟨a,cap,rfl,_⟩:=h
 simp [Builtin.len_,go_sem]
theorem below_grown {B : Nat} {w0 w w' : World} {v : Value} {xs : List Int} (hb : Below B w0 w) (hB : B ≤ w.heap.size) (hown : Own w B v xs) (hg : w.grownBy w' v.ownBlock) : Below B w0 w' :=
 hb.grown hg hB (fun k hk => (World.ownsRow.lt hown k hk).1)
def OwnI (w : World) (base : Nat) (v : Value) (xs : List Int) : Prop :=
 (v = .slice none 0 0 ∧ xs = []) ∨
 ∃ (g : Nat) (cur : List Int),v = .slice (some ⟨g,0,none⟩) xs.length cur.length ∧ base ≤ g ∧ w.heap[g]? = some (.cells (cur.map (Value.int .u8)).toArray 5 (0,0)) ∧ cur.length ≤ maxLen ∧ Byt cur ∧ xs.length ≤ cur.length ∧ cur.take xs.length = xs
theorem OwnI.own {w : World} {base : Nat} {v : Value} {xs : List Int} (h : OwnI w base v xs) : Own w base v xs:=by
 rcases h with ⟨rfl,rfl⟩ | ⟨g,cur,rfl,hb,hg,hm,hy,hl,ht⟩
 ·exact Own.nil _ _
 ·refine ⟨by simp,.inr ⟨g,cur.length,_,rfl,hb,hg,hl,hm,by simp,?_⟩⟩
  simp only [Nat.mul_one]
  rw [← List.map_take,ht]
theorem OwnI.nil (w : World) (base : Nat) : OwnI w base (.slice none 0 0) []:=.inl ⟨rfl,rfl⟩
theorem OwnI.mono {w : World} {base base' : Nat} {v : Value} {xs : List Int} (h : OwnI w base v xs) (hb : base' ≤ base) : OwnI w base' v xs:=by
 rcases h with h | ⟨g,cur,rfl,hb',r⟩
 ·exact .inl h
 ·exact .inr ⟨g,cur,rfl,Nat.le_trans hb hb',r⟩
theorem OwnI.below {w w' : World} {base : Nat} {v : Value} {xs : List Int} (h : OwnI w base v xs) (hb : Below w.heap.size w w') : OwnI w' base v xs:=by
 rcases h with h | ⟨g,cur,rfl,hb',hg,r⟩
 ·exact .inl h
 ·exact .inr ⟨g,cur,rfl,hb',(hb.block g (Array.getElem?_eq_some_iff.1 hg).1).trans hg,r⟩
theorem copy_rd (w : World) (g o dLen dCap : Nat) (cur : Array Value) (t : TypeId) (hg : w.heap[g]? = some (.cells cur t (0,0))) (v : Value) (xs : List Int) (hr : Rd w v xs) (hle : xs.length ≤ dLen) (hfit : o + xs.length ≤ cur.size) :
  (Builtin.copy_ #[152,152] 3 #[.slice (some ⟨g,o,none⟩) dLen dCap,v]).run Tryz.prog w = .ok (goInt xs.length) (w.setRow g (cur.toList.take o ++ xs.map (Value.int .u8) ++ cur.toList.drop (o + xs.length)).toArray):=by
 obtain ⟨a,cap,rfl,hcap,hm,hnn,hne⟩:=hr
 cases xs with
 | nil =>
  have h:=run_copy_none (P:=Tryz.prog) w 152 152 3 5 (some ⟨g,o,none⟩) a dLen dCap 0 cap Tryz.underlying152 (by kernel_rfl) (by simp)
  rw [List.length_nil,h]
  simp only [List.map_nil,List.append_nil,Nat.add_zero,List.take_append_drop,Array.toArray_toList]
  rw [setRow_self w g cur t (0,0) hg]
  rfl
 | cons x r =>
  obtain ⟨b,off,rfl,hbl,hc⟩:=hne (by simp)
  have hmin : Nat.min (x :: r).length dLen = (x :: r).length:=Nat.min_eq_left hle
  have h:=run_copy_row Tryz.prog w 152 152 3 5 g o dLen dCap ⟨b,off,none⟩ (x :: r).length cap cur t ((x :: r).map (Value.int .u8)) Tryz.underlying152 (by kernel_rfl) hg (by rw [List.length_map,hmin])
   (fun j u hj => by
    have hj' : j < (x :: r).length:=by
     rcases Nat.lt_or_ge j (x :: r).length with h | h
     ·exact h
     ·rw [List.getElem?_eq_none (by simpa using h)] at hj; cases hj
    have hadd : (⟨b,off,none⟩ : Addr).add j = ⟨b,off + j,none⟩:=by unfold Addr.add; split <;> simp_all
    rw [hadd,hc j hj',← hj,List.getElem?_map,List.getD_eq_getElem?_getD,List.getElem?_eq_getElem hj']
    rfl) (by simpa using hfit) (ints_oneCell _ _)
  rw [h,List.length_map]
theorem row_set {W : World} {g j : Nat} {cur : List Int} (hg : W.heap[g]? = some (.cells (cur.map (Value.int .u8)).toArray 5 (0,0))) (z : Int) :
  (W.setCell ⟨g,j,none⟩ (.int .u8 z)).heap[g]? = some (.cells ((cur.set j z).map (Value.int .u8)).toArray 5 (0,0)):=by
 rw [heap_setCell_same W g j _ 5 _ hg]
 congr 2
 apply Array.ext'
 rw [Array.toList_setIfInBounds,List.map_set]
theorem row_cell {W : World} {g j : Nat} {cur : List Int} (hg : W.heap[g]? = some (.cells (cur.map (Value.int .u8)).toArray 5 (0,0))) (hj : j < cur.length) : W.cell? ⟨g,j,none⟩ = some (.int .u8 (cur.getD j 0)):=by
 rw [cell_of_row _ _ j _ 5 (0,0) hg,List.getElem?_toArray,List.getElem?_map,List.getD_eq_getElem?_getD,List.getElem?_eq_getElem hj]
 rfl
theorem OwnI.setCell {W : World} {base : Nat} {y : Value} {ys : List Int} (h : OwnI W base y ys) {g j : Nat} (hg : g < base) (u : Value) : OwnI (W.setCell ⟨g,j,none⟩ u) base y ys:=by
 rcases h with h | ⟨g',cur,rfl,hb,hh,r⟩
 ·exact .inl h
 ·refine .inr ⟨g',cur,rfl,hb,?_,r⟩
  rw [heap_setCell_other _ _ _ _ (by show g' ≠ g; omega)]
  exact hh
theorem keep2 {w3 W w' : World} (k : Below W.heap.size W w') (h : Below w3.heap.size w3 W) : Below w3.heap.size w3 w':=h.trans (k.mono h.size)
def toU (a : List Int) : List UInt8:=a.map fun n => UInt8.ofNat n.toNat
theorem toU_cell (a : List Int) (h : Byt a) : (toU a).map Extern.Stop.cell = a.map (Value.int .u8):=by
 unfold toU
 rw [List.map_map]
 apply List.map_congr_left
 intro x hx
 obtain ⟨h0,h1⟩:=h x hx
 simp only [Function.comp_apply,Extern.Stop.cell]
 congr 1
 simp
 omega
theorem toU_inj (a b : List Int) (ha : Byt a) (hb : Byt b) (h : toU a = toU b) : a = b:=by
 have:=congrArg (List.map Extern.Stop.cell) h
 rw [toU_cell a ha,toU_cell b hb] at this
 exact (List.map_inj_right (fun x y e => by cases e; rfl)).1 this
def dig (N j : Nat) : Nat:=N / 2 ^ (8 * j) % 256
def fixB (N k : Nat) : List Int:=(List.range k).map fun p => (dig N (k - 1 - p) : Int)
def fixRow (N k i : Nat) : List Int:=(List.range k).map fun p => if k ≤ p + i then (dig N (k - 1 - p) : Int) else 0
theorem fixB_length (N k : Nat) : (fixB N k).length = k:=by simp [fixB]
theorem fixRow_length (N k i : Nat) : (fixRow N k i).length = k:=by simp [fixRow]
theorem fixRow_zero (N k : Nat) : fixRow N k 0 = List.replicate k 0:=by
 apply List.ext_getElem
 ·simp [fixRow]
 ·intro p h1 h2
  simp [fixRow] at h1 ⊢
  omega
theorem fixRow_all (N k : Nat) : fixRow N k k = fixB N k:=by
 apply List.ext_getElem
 ·simp [fixRow,fixB]
 ·intro p h1 h2
  simp [fixRow,fixB]
theorem fixRow_set (N k i : Nat) (hi : i < k) : (fixRow N k i).set (k - 1 - i) (dig N i : Int) = fixRow N k (i + 1):=by
 apply List.ext_getElem
 ·simp [fixRow]
 ·intro p h1 h2
  simp only [fixRow,List.length_set,List.length_map,List.length_range] at h1
  simp only [fixRow,List.getElem_set,List.getElem_map,List.getElem_range]
  by_cases hp : k - 1 - i = p
  ·subst hp
   rw [if_pos rfl,if_pos (by omega),show k - 1 - (k - 1 - i) = i from by omega]
  ·rw [if_neg hp]
   by_cases hq : k ≤ p + i
   ·rw [if_pos hq,if_pos (by omega)]
   ·rw [if_neg hq,if_neg (by omega)]
theorem dig_lt (N j : Nat) : dig N j < 256:=Nat.mod_lt _ (by decide)
theorem fixB_byt (N k : Nat) : Byt (fixB N k):=by
 intro x hx
 simp only [fixB,List.mem_map] at hx
 obtain ⟨p,_,rfl⟩:=hx
 have:=dig_lt N (k - 1 - p)
 omega
def fixE (n k : Int) : Int:=if k < 1 ∨ 8 < k then 1 else if (n / 2 ^ (8 * k.toNat) != 0) = true then 2 else 0
def fixL (n k : Int) : List Int:=if fixE n k = 0 then fixB n.toNat k.toNat else []
theorem div_nat (N i : Nat) : (N : Int) / 2 ^ (8 * i) = ((N / 2 ^ (8 * i) : Nat) : Int):=by
 rw [Int.natCast_ediv,Int.natCast_pow]
 rfl
theorem div_step (N i : Nat) (hN : N < 2 ^ 64) : IntKind.u64.wrap (((N : Int) / 2 ^ (8 * i)).tdiv 256) = (N : Int) / 2 ^ (8 * (i + 1)):=by
 rw [IntKind.wrap_u64,div_nat,div_nat,show 8 * (i + 1) = 8 * i + 8 from by omega,Nat.pow_add,← Nat.div_div_eq_div_mul]
 have h1 : N / 2 ^ (8 * i) ≤ N:=Nat.div_le_self _ _
 generalize N / 2 ^ (8 * i) = q at h1
 rw [Int.tdiv_eq_ediv_of_nonneg (by omega)]
 omega
theorem mod_step (N i : Nat) : ((N : Int) / 2 ^ (8 * i)).tmod 256 % 256 = (N : Int) / 2 ^ (8 * i) % 256:=by
 rw [div_nat]
 generalize N / 2 ^ (8 * i) = q
 rw [Int.tmod_eq_emod_of_nonneg (by omega)]
 omega
def valB (xs : List Int) : Nat:=xs.foldl (fun a b => a * 256 + b.toNat) 0
def numE (xs : List Int) (k : Int) : Int:=if k < 1 ∨ 8 < k then 1 else if (xs.length : Int) < k then 10 else 0
def numV (xs : List Int) (k : Int) : Int:=if numE xs k = 0 then (valB (xs.take k.toNat) : Int) else 0
theorem valB_snoc (xs : List Int) (b : Int) : valB (xs ++ [b]) = valB xs * 256 + b.toNat:=by simp [valB]
theorem valB_from (xs : List Int) (h : Byt xs) : ∀ a : Nat,xs.foldl (fun a b => a * 256 + b.toNat) a < (a + 1) * 256 ^ xs.length:=by
 induction xs with
 | nil => intro a; simp
 | cons b xs ih =>
  intro a
  have h1:=ih (fun x hx => h x (by simp [hx])) (a * 256 + b.toNat)
  have h2:=h b (by simp)
  rw [List.foldl_cons,List.length_cons,Nat.pow_succ,Nat.mul_comm (256 ^ xs.length) 256,← Nat.mul_assoc]
  exact Nat.lt_of_lt_of_le h1 (Nat.mul_le_mul_right _ (by omega))
theorem valB_lt (xs : List Int) (h : Byt xs) : valB xs < 256 ^ xs.length:=by
 have:=valB_from xs h 0
 simpa [valB] using this
theorem valB_take_lt (xs : List Int) (h : Byt xs) (i : Nat) (hi : i ≤ 7) : valB (xs.take i) < 72057594037927936:=by
 have h1:=valB_lt (xs.take i) (h.take i)
 have h2 : (xs.take i).length ≤ 7:=by have:=List.length_take_le i xs; omega
 have h3 : 256 ^ (xs.take i).length ≤ 256 ^ 7:=Nat.pow_le_pow_right (by decide) h2
 have h4 : 256 ^ 7 = 72057594037927936:=by decide
 omega
theorem valB_succ (xs : List Int) (i : Nat) (hi : i < xs.length) : valB (xs.take (i + 1)) = valB (xs.take i) * 256 + (xs.getD i 0).toNat:=by
 rw [List.take_succ_eq_append_getElem hi,valB_snoc]
 simp [List.getElem?_eq_getElem hi]
theorem or_step (V : Nat) (c : Int) (hV : V < 72057594037927936) (h0 : 0 ≤ c) (h1 : c ≤ 255) : bits .or .u64 ((V : Int) * 256) c = ((V * 256 + c.toNat : Nat) : Int):=by
 obtain ⟨C,rfl⟩:=Int.eq_ofNat_of_zero_le h0
 have e1 : (V : Int) * 256 = ((V * 256 : Nat) : Int):=by omega
 rw [e1,u64_or_nat _ _ (by omega) (by omega),Int.toNat_natCast]
 have:=Nat.shiftLeft_add_eq_or_of_lt (i:=8) (b:=C) (by omega) V
 rw [Nat.shiftLeft_eq] at this
 rw [← this]
theorem thenB {A B C : World} (h : Below A.heap.size A B) (k : Below B.heap.size B C) : Below A.heap.size A C:=h.trans (k.mono h.size)
end Go.Proofs.YtgajjphjkbnaeaaGreat
