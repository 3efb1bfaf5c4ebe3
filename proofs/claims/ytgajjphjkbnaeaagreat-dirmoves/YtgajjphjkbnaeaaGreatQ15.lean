/- RtRow, RtState, RtCheck: in one text. -/
import Derived.Test.YtgajjphjkbnaeaaGreatQ13
import Derived.Test.YtgajjphjkbnaeaaGreatQ14
import Derived.Test.YtgajjphjkbnaeaaGreatRows
import Derived.WalkKit
import Derived.WalkSpells
import Derived.WalkLawsBesides
import Derived.OpenShut
import Derived.Below
import Derived.Deep.WholeRow
import Derived.Laws.AppendOwnNone
import Derived.Laws.Rows
import Derived.Lib.AppendZeros
import Derived.Deep.RegionLaw
import Derived.ArgAppend
import Derived.Deep.DeepAppendRoom
import Derived.BigQuiet
import Derived.Deep.QuietTactic
import Derived.Deep.RegionHeld3
import Derived.Deep.MidRow
namespace Go.Proofs.YtgajjphjkbnaeaaGreat
open Go.RowKit
set_option linter.unusedVariables false
set_option maxHeartbeats 32000000
set_option maxRecDepth 100000
set_option linter.unusedSimpArgs false
theorem toList_inj {s t : ByteArray} (h : s.toList = t.toList) : s = t:=by
 rw [ByteArray.toList_eq,ByteArray.toList_eq] at h
 obtain ⟨d⟩:=s
 obtain ⟨d'⟩:=t
 exact congrArg ByteArray.mk (Array.ext' h)
def RdE {α : Type} (k : Nat) (enc : α → List Value) (w : World) (v : Value) (l : List α) : Prop :=
 ∃ a cap,v = .slice a l.length cap ∧ l.length ≤ cap ∧ cap ≤ maxLen ∧ (l ≠ [] → ∃ b off,a = some ⟨b,off,none⟩ ∧ b < w.heap.size ∧ ∀ i x j u,l[i]? = some x → (enc x)[j]? = some u → w.cell? ⟨b,off + i * k + j,none⟩ = some u)
theorem RdE.below {α : Type} {k : Nat} {enc : α → List Value} {w w' : World} {v : Value} {l : List α} (h : RdE k enc w v l) (hb : Below w.heap.size w w') : RdE k enc w' v l:=by
 obtain ⟨a,cap,rfl,h1,h2,h3⟩:=h
 refine ⟨a,cap,rfl,h1,h2,fun hne => ?_⟩
 obtain ⟨b,off,rfl,hlt,hc⟩:=h3 hne
 exact ⟨b,off,rfl,Nat.lt_of_lt_of_le hlt hb.size,fun i x j u hi hj => (hb.cell (p:=⟨b,off + i * k + j,none⟩) hlt).trans (hc i x j u hi hj)⟩
theorem RdE.nil {α : Type} (k : Nat) (enc : α → List Value) (w : World) : RdE k enc w (.slice none 0 0) ([] : List α):=⟨none,0,rfl,Nat.le_refl _,by simp,fun h => absurd rfl h⟩
theorem flat_atR {α β : Type} (k : Nat) (enc : α → List β) (hk : ∀ x,(enc x).length = k) : ∀ (l : List α) (i : Nat) (x : α) (j : Nat) (u : β),l[i]? = some x → (enc x)[j]? = some u → (l.flatMap enc)[i * k + j]? = some u:=by
 intro l
 induction l with
 | nil => intro i x j u h _; simp at h
 | cons y l ih =>
  intro i x j u hi hj
  have hj' : j < k:=by rw [← hk x]; exact (List.getElem?_eq_some_iff.1 hj).1
  rw [List.flatMap_cons]
  cases i with
  | zero =>
   simp at hi; subst hi
   rw [List.getElem?_append_left (by rw [hk]; omega),Nat.zero_mul,Nat.zero_add]; exact hj
  | succ i =>
   rw [List.getElem?_append_right (by rw [hk,Nat.succ_mul]; omega),hk,show (i + 1) * k + j - k = i * k + j from by rw [Nat.succ_mul]; omega]
   exact ih i x j u (by simpa using hi) hj
theorem rdE_own {α : Type} {k : Nat} {enc : α → List Value} (hk : ∀ x,(enc x).length = k) {w : World} {base e : Nat} {v : Value} {l : List α} (h : w.ownsRow base e k v l.length (l.flatMap enc)) : RdE k enc w v l:=by
 obtain ⟨h1,h2⟩:=h
 rcases h2 with ⟨rfl,hn⟩ | ⟨g,cap,cur,rfl,hb,hg,hn,hm,hs,ht⟩
 ·have : l = []:=List.eq_nil_of_length_eq_zero hn
  subst this
  exact RdE.nil k enc w
 ·refine ⟨_,cap,rfl,hn,hm,fun _ => ⟨g,0,rfl,(Array.getElem?_eq_some_iff.1 hg).1,fun i x j u hi hj => ?_⟩⟩
  have e:=flat_atR k enc hk l i x j u hi hj
  rw [← ht,List.getElem?_take] at e
  split at e
  ·rw [Nat.zero_add,cell_of_row w g _ cur _ (0,0) hg,← Array.getElem?_toList]; exact e
  ·cases e
theorem take_next {α : Type} {l : List α} {k : Nat} {x : α} (h : l[k]? = some x) : l.take (k + 1) = l.take k ++ [x]:=by
 rw [List.take_add_one,h]; rfl
theorem row_slice {w : World} {base e k : Nat} {v : Value} {n : Nat} {xs : List Value} (h : w.ownsRow base e k v n xs) : ∃ a c,v = .slice a n c:=by
 rcases h.2 with ⟨rfl,rfl⟩ | ⟨g,cap,cur,rfl,_⟩
 ·exact ⟨_,_,rfl⟩
 ·exact ⟨_,_,rfl⟩
theorem row_below {w w' : World} {base e k : Nat} {v : Value} {n : Nat} {xs : List Value} (h : w.ownsRow base e k v n xs) (hb : Below w.heap.size w w') : w'.ownsRow base e k v n xs :=
 World.ownsRow.kept h (row:=Option.none) ⟨hb.os,hb.tape,hb.output,hb.size,fun k hk _ => hb.block k hk⟩ (by cases hv : v.ownBlock <;> simp)
theorem row_mono {w : World} {base base' e k : Nat} {v : Value} {n : Nat} {xs : List Value} (h : w.ownsRow base e k v n xs) (hb : base' ≤ base) : w.ownsRow base' e k v n xs:=by
 obtain ⟨h1,h2⟩:=h
 refine ⟨h1,?_⟩
 rcases h2 with h2 | ⟨g,cap,cur,hv,hg,r⟩
 ·exact .inl h2
 ·exact .inr ⟨g,cap,cur,hv,Nat.le_trans hb hg,r⟩
def RdZ {α : Type} (k : Nat) (enc : α → List Value) (w : World) (v : Value) (l : List α) : Prop:=RdE k enc w v l ∧ ∀ c,v = .slice none 0 c → c = 0
theorem RdZ.below {α : Type} {k : Nat} {enc : α → List Value} {w w' : World} {v : Value} {l : List α} (h : RdZ k enc w v l) (hb : Below w.heap.size w w') : RdZ k enc w' v l:=⟨RdE.below h.1 hb,h.2⟩
theorem RdZ.nil {α : Type} (k : Nat) (enc : α → List Value) (w : World) : RdZ k enc w (.slice none 0 0) ([] : List α):=⟨RdE.nil _ _ _,fun c h => by simp only [Value.slice.injEq,true_and] at h; exact h.symm⟩
theorem RdZ.len {α : Type} {k : Nat} {enc : α → List Value} {w : World} {a : Option Addr} {n c : Nat} {l : List α} (h : RdZ k enc w (.slice a n c) l) : l.length = n ∧ n ≤ c ∧ c ≤ maxLen:=by
 obtain ⟨⟨a',c',e,h1,h2,_⟩,_⟩:=h
 simp only [Value.slice.injEq] at e
 obtain ⟨_,rfl,rfl⟩:=e
 exact ⟨rfl,h1,h2⟩
theorem rdZ_own {α : Type} {k : Nat} {enc : α → List Value} (hk : ∀ x,(enc x).length = k) {w : World} {base e : Nat} {v : Value} {l : List α} (h : w.ownsRow base e k v l.length (l.flatMap enc)) : RdZ k enc w v l:=by
 refine ⟨rdE_own hk h,fun c hv => ?_⟩
 rcases h.2 with ⟨e',_⟩ | ⟨g,cap,cur,e',_⟩
 ·rw [e'] at hv; simp only [Value.slice.injEq,true_and] at hv; exact hv.symm
 ·rw [e'] at hv; cases hv
def OwnL {α : Type} (base e k : Nat) (enc : α → List Value) (w : World) (v : Value) (l : List α) : Prop:=w.ownsRow base e k v l.length (l.flatMap enc)
theorem OwnL.below {α : Type} {base e k : Nat} {enc : α → List Value} {w w' : World} {v : Value} {l : List α} (h : OwnL base e k enc w v l) (hb : Below w.heap.size w w') : OwnL base e k enc w' v l:=row_below h hb
theorem OwnL.mono {α : Type} {base base' e k : Nat} {enc : α → List Value} {w : World} {v : Value} {l : List α} (h : OwnL base e k enc w v l) (hb : base' ≤ base) : OwnL base' e k enc w v l:=row_mono h hb
theorem OwnL.nil {α : Type} (base e k : Nat) (enc : α → List Value) (w : World) : OwnL base e k enc w (.slice none 0 0) ([] : List α):=World.ownsRow_nil _ _ _ _
theorem RdZ.mid {α : Type} {k : Nat} {enc : α → List Value} {w : World} {b off n c : Nat} {l : List α} (h : RdZ k enc w (.slice (some ⟨b,off,none⟩) n c) l) (i m c' : Nat) (hm : i + m ≤ n) (hc : m ≤ c') (hcc : i + c' ≤ c) : RdZ k enc w (.slice (some ⟨b,off + i * k,none⟩) m c') ((l.drop i).take m):=by
 obtain ⟨hl,h1,h2⟩:=h.len
 obtain ⟨⟨a,cap,e,_,_,h4⟩,_⟩:=h
 simp only [Value.slice.injEq] at e
 obtain ⟨rfl,_,rfl⟩:=e
 have hdl : ((l.drop i).take m).length = m:=by simp; omega
 refine ⟨⟨_,c',by rw [hdl],by rw [hdl]; exact hc,by omega,fun hne => ?_⟩,fun c hv => by cases hv⟩
 have hm0 : 0 < m:=by
  rcases Nat.eq_zero_or_pos m with h0 | h0
  ·subst h0; simp at hne
  ·exact h0
 obtain ⟨b',off',e',hlt,hcell⟩:=h4 (by intro e; subst e; simp at hl; omega)
 simp only [Option.some.injEq,Addr.mk.injEq] at e'
 obtain ⟨rfl,rfl,_⟩:=e'
 refine ⟨_,_,rfl,hlt,fun t x j u hx hj => ?_⟩
 rw [List.getElem?_take] at hx
 by_cases ht : t < m
 ·rw [if_pos ht,List.getElem?_drop] at hx
  have:=hcell (i + t) x j u hx hj
  rw [show off + i * k + t * k + j = off + (i + t) * k + j from by rw [Nat.add_mul]; omega]
  exact this
 ·rw [if_neg ht] at hx; cases hx
theorem flat_len {α : Type} {k : Nat} {enc : α → List Value} (hk : ∀ x,(enc x).length = k) (l : List α) : (l.flatMap enc).length = l.length * k:=by
 induction l with
 | nil => simp
 | cons x t ih => rw [List.flatMap_cons,List.length_append,hk,ih,List.length_cons,Nat.add_mul]; omega
theorem wpList_append_E {α : Type} {k : Nat} {enc : α → List Value} (hk : ∀ x,(enc x).length = k) (h1 : ∀ x,∀ u ∈ enc x,u.oneCell' = true) {t e : TypeId} {i : TypeInfo} {z : Value} {by' : Nat} (ht : Tryz.prog.underlying t = some (.slice e)) (hi : Tryz.prog.info? e = some i) (hz : i.zero = some z) (hsize : i.size = k) (hby : i.bytes = by') (hzs : z.cells.size = k) (hkp : 0 < k) (hsm : by' ≤ 1000)
  {w : World} {ops : Array Oper} {rest : List Oper} {o : Oper} {a : Act} {Q : Exit → Act → World → Prop} (hgd : o.guard = none) (s x : Operand)
  (ho : o.op = .call { callee:=.builtin .append,args:=#[s,x],argTypes:=#[t,t] }) (base : Nat)
  (v : Value) (xs : List α) (hs : a.eval s = v) (hown : OwnL base e k enc w v xs) (u : Value) (ys : List α) (hx : a.eval x = u) (hrd : RdZ k enc w u ys)
  (hlen : xs.length + ys.length ≤ 1000000) (hbase : base ≤ w.heap.size)
  (h : ∀ v' w',OwnL base e k enc w' v' (xs ++ ys) → w.grownBy w' v.ownBlock → wpList Tryz.prog ops Q rest (a.put o.dst v') w') : wpList Tryz.prog ops Q (o :: rest) a w:=by
 obtain ⟨⟨ad,cap,rfl,h2,h3,h4⟩,hn⟩:=hrd
 cases ad with
 | none =>
  have hl0 : ys = []:=by
   cases ys with
   | nil => rfl
   | cons y r => obtain ⟨b,off,e,_⟩:=h4 (by simp); cases e
  subst hl0
  have hc0:=hn cap rfl
  subst hc0
  refine wpList_append_own_none hgd s x t ho base e i k ht hi v _ _ hs hown hx ?_
  exact h v w (by rw [List.append_nil]; exact hown) (World.grownBy.refl _ _)
 | some ad =>
  refine wpList_append_own w hgd s x t ho base e i z k by' ht hi hz hsize hby hzs hkp v _ _ hs hown ad ys.length cap (ys.flatMap enc) hx (flat_len hk ys) ?_ (fun u hu => by obtain ⟨x,_,hx⟩:=List.mem_flatMap.1 hu; exact h1 x u hx) ?_ ?_ hbase ?_
  ·intro j u hj
   have hjl:=(List.getElem?_eq_some_iff.1 hj).1
   rw [flat_len hk] at hjl
   have hne : ys ≠ []:=by intro e; subst e; simp at hjl
   obtain ⟨b,off,e1,_,hcell⟩:=h4 hne
   cases e1
   have hadd : (⟨b,off,none⟩ : Addr).add j = ⟨b,off + j,none⟩:=by unfold Addr.add; split <;> simp_all
   have hik : j / k < ys.length:=(Nat.div_lt_iff_lt_mul hkp).2 hjl
   have hx:=List.getElem?_eq_getElem hik
   have hmk : j % k < (enc ys[j / k]).length:=by rw [hk]; exact Nat.mod_lt _ hkp
   have hu:=List.getElem?_eq_getElem hmk
   have hfl:=flat_atR k enc hk ys (j / k) _ (j % k) _ hx hu
   rw [Nat.div_add_mod' j k] at hfl
   rw [hfl] at hj
   cases hj
   have:=hcell (j / k) _ (j % k) _ hx hu
   rw [Nat.add_assoc,Nat.div_add_mod' j k] at this
   rw [hadd]
   exact this
  ·unfold maxLen; omega
  ·have : (xs.length + ys.length) * by' ≤ 1000000 * 1000:=Nat.mul_le_mul hlen hsm
   omega
  ·intro v' w' ho' hg _
   refine h v' w' ?_ hg
   unfold OwnL
   rw [List.length_append,List.flatMap_append]
   exact ho'
theorem run_clear_row (P : Program) (w : World) (t e ty : TypeId) (z : Value) (ht : P.underlying t = some (.slice e)) (hv : ∀ w,(zeroValue e).run P w = .ok z w) (g o n c : Nat) (cur : Array Value) (hn : 0 < n) (h1 : ∀ u ∈ (Builtin.zeroCells z.cells n).toList,u.oneCell' = true)
  (hg : w.heap[g]? = some (.cells cur e (0,0))) (hfit : o + (Builtin.zeroCells z.cells n).toList.length ≤ cur.size) :
  (Builtin.clear_ #[t] ty #[.slice (some ⟨g,o,none⟩) n c]).run P w = .ok (.tuple #[]) (w.setRow g (cur.toList.take o ++ (Builtin.zeroCells z.cells n).toList ++ cur.toList.drop (o + (Builtin.zeroCells z.cells n).toList.length)).toArray):=by
 have hst:=run_storeCells_at P g o e (Builtin.zeroCells z.cells n).toList 0 cur w hg (by simpa using hfit) h1
 simp only [Nat.add_zero] at hst
 obtain ⟨m,rfl⟩ : ∃ m,n = m + 1:=⟨n - 1,by omega⟩
 simp [Builtin.clear_,run_underlying ht,hv]
 simp at hst
 rw [hst]
 rfl
-- GEN
theorem info_parts {t : TypeId} {z : Value} {n b : Nat} (h : (Tryz.prog.info? t).map (fun i => (i.zero,i.size,i.bytes)) = some (some z,n,b)) : ∃ i,Tryz.prog.info? t = some i ∧ i.zero = some z ∧ i.size = n ∧ i.bytes = b:=by
 cases hi : Tryz.prog.info? t with
 | none => rw [hi] at h; cases h
 | some i =>
  rw [hi] at h
  simp only [Option.map_some,Option.some.injEq,Prod.mk.injEq] at h
  exact ⟨i,rfl,h.1,h.2.1,h.2.2⟩
structure Tc where
 kind : Int
 ino : Int
 name : ByteArray
 lo : Int
 hi : Int
structure TcOk (t : Tc) : Prop where
 k0 : -9223372036854775808 ≤ t.kind
 k1 : t.kind ≤ 9223372036854775807
 i0 : 0 ≤ t.ino
 i1 : t.ino ≤ 4294967295
 n1 : t.name.size ≤ maxLen
 l0 : -9223372036854775808 ≤ t.lo
 l1 : t.lo ≤ 9223372036854775807
 h0 : -9223372036854775808 ≤ t.hi
 h1 : t.hi ≤ 9223372036854775807
def tcE (t : Tc) : List Value:=[.int .i64 t.kind,.int .u32 t.ino,.string t.name,.int .i64 t.lo,.int .i64 t.hi]
def tcC (t : Tc) : Array Value:=#[.int .i64 t.kind,.int .u32 t.ino,.string t.name,.int .i64 t.lo,.int .i64 t.hi]
def tc0 : Tc:=⟨0,0,⟨#[]⟩,0,0⟩
theorem tc_len (t : Tc) : (tcE t).length = 5:=rfl
theorem tc_one (t : Tc) : ∀ u ∈ tcE t,u.oneCell' = true:=fun u hu => by
 simp [tcE] at hu
 rcases hu with rfl | rfl | rfl | rfl | rfl <;> rfl
def tcEq (a b : Tc) : Bool:=a.kind == b.kind && a.ino == b.ino && a.name.toList == b.name.toList && a.lo == b.lo && a.hi == b.hi
theorem tcEq_iff {a b : Tc} : tcEq a b = true ↔ a = b:=by
 obtain ⟨k,i,s,l,h⟩:=a
 obtain ⟨k',i',s',l',h'⟩:=b
 simp only [tcEq,Bool.and_eq_true,beq_iff_eq,Tc.mk.injEq]
 constructor
 ·rintro ⟨⟨⟨⟨rfl,rfl⟩,h⟩,rfl⟩,rfl⟩
  exact ⟨rfl,rfl,toList_inj h,rfl,rfl⟩
 ·rintro ⟨rfl,rfl,rfl,rfl,rfl⟩
  exact ⟨⟨⟨⟨rfl,rfl⟩,rfl⟩,rfl⟩,rfl⟩
theorem tcEq_self (a : Tc) : tcEq a a = true:=tcEq_iff.2 rfl
theorem equal_tcs (w : World) (k i l h k' i' l' h' : Int) (s s' : ByteArray) : (Op.equalIn 10000 120 (.agg #[.int .i64 k,.int .u32 i,.string s,.int .i64 l,.int .i64 h]) (.agg #[.int .i64 k',.int .u32 i',.string s',.int .i64 l',.int .i64 h'])).run Tryz.prog w = .ok (tcEq ⟨k,i,s,l,h⟩ ⟨k',i',s',l',h'⟩) w:=by
 have u3:=Tryz.underlying3
 have u9:=Tryz.underlying9
 have u22:=Tryz.underlying30
 have hS : Tryz.prog.underlying 120 = some (.struct (Tryz.prog.fieldsOf 120)):=by kernel_rfl
 have hp : Tryz.prog.stoodInHeld 120 = false:=by kernel_rfl
 rw [show (10000 : Nat) = 9999 + 1 from rfl,run_equalIn_agg w 9999 _ _ _ hS hp]
 simp only [Program.fieldsOf,Tryz.underlying120]
 go_simp
 unfold tcEq
 by_cases h1 : k = k' <;> by_cases h2 : i = i' <;> by_cases h3 : s.toList = s'.toList <;> by_cases h4 : l = l' <;> by_cases h5 : h = h' <;> simp [h1,h2,h3,h4,h5]
theorem eq_tcs (w : World) (k i l h k' i' l' h' : Int) (s s' : ByteArray) : (binOp .eql 120 (.agg #[.int .i64 k,.int .u32 i,.string s,.int .i64 l,.int .i64 h]) (.agg #[.int .i64 k',.int .u32 i',.string s',.int .i64 l',.int .i64 h'])).run Tryz.prog w = .ok (.bool (tcEq ⟨k,i,s,l,h⟩ ⟨k',i',s',l',h'⟩)) w:=by
 rw [run_eql_struct,equal_tcs]
 rfl
structure TcAt (w : World) (g : Nat) (t : Tc) : Prop where
 row : w.heap[g]? = some (.cells (tcC t) 120 (0,0))
theorem TcAt.lt {w : World} {g : Nat} {t : Tc} (h : TcAt w g t) : g < w.heap.size:=(Array.getElem?_eq_some_iff.1 h.row).1
theorem TcAt.below {w w' : World} {g : Nat} {t : Tc} (h : TcAt w g t) (hb : Below w.heap.size w w') : TcAt w' g t:=⟨(hb.block g h.lt).trans h.row⟩
theorem TcAt.laid (w : World) (t : Tc) : TcAt (w.alloc (.cells (tcC t) 120)) w.heap.size t:=⟨heap_alloc_new w _⟩
theorem TcAt.cell {w : World} {g : Nat} {t : Tc} (h : TcAt w g t) (j : Nat) (v : Value) (hv : (tcC t)[j]? = some v) : w.cell? ⟨g,j,none⟩ = some v:=by
 rw [cell_of_row w g j _ _ (0,0) h.row]; exact hv
theorem TcAt.c0 {w : World} {g : Nat} {t : Tc} (h : TcAt w g t) : w.cell? ⟨g,0,none⟩ = some (.int .i64 t.kind):=h.cell 0 _ rfl
theorem TcAt.c1 {w : World} {g : Nat} {t : Tc} (h : TcAt w g t) : w.cell? ⟨g,1,none⟩ = some (.int .u32 t.ino):=h.cell 1 _ rfl
theorem TcAt.c2 {w : World} {g : Nat} {t : Tc} (h : TcAt w g t) : w.cell? ⟨g,2,none⟩ = some (.string t.name):=h.cell 2 _ rfl
theorem TcAt.c3 {w : World} {g : Nat} {t : Tc} (h : TcAt w g t) : w.cell? ⟨g,3,none⟩ = some (.int .i64 t.lo):=h.cell 3 _ rfl
theorem TcAt.c4 {w : World} {g : Nat} {t : Tc} (h : TcAt w g t) : w.cell? ⟨g,4,none⟩ = some (.int .i64 t.hi):=h.cell 4 _ rfl
theorem TcAt.load {w : World} {g : Nat} {t : Tc} (h : TcAt w g t) : (Instr.loadAt 120 (.pointer (some ⟨g,0,none⟩))).run Tryz.prog w = .ok (.agg (tcC t)) w:=by
 have hl:=run_loadVar_row (P:=Tryz.prog) w g _ 120 (tcC t) _ _ h.row Tryz.underlying120 rfl (by kernel_rfl)
 simp only [Instr.loadAt,Instr.sureAddr,Sem.run_bind,Sem.run_pure,Result.andThen_ok,hl]
def noName (t : Tc) : Bool:=t.name.toList == []
def noSpan (t : Tc) : Bool:=t.lo == 0 && t.hi == 0
def bareK (k : Int) : Bool:=k == 1 || k == 2 || k == 3 || k == 6 || k == 7
def mayB (t : Tc) : Bool :=
 t.ino != 0 && (if t.kind = 4 then noName t && (decide (0 ≤ t.lo) && decide (t.lo < t.hi) && decide (t.hi ≤ 512)) else if t.kind = 5 then !(noName t) && noSpan t else bareK t.kind && noName t && noSpan t)
def tckE (t : Tc) : Int:=if mayB t = true then 0 else 1
theorem bel1 (w : World) (o : Obj) : Below w.heap.size w (w.alloc o):=(Below.refl _ _).alloc (Nat.le_refl _) _
theorem bel2 (w : World) (o p : Obj) : Below w.heap.size w ((w.alloc o).alloc p):=(bel1 w o).alloc (by simp) _
theorem mayBe_b1 (w : World) (k i l h : Int) (s : ByteArray) (hk : k = 4) (h1 : l < 0) : Calls Tryz.prog 96 #[.agg #[.int .i64 k,.int .u32 i,.string s,.int .i64 l,.int .i64 h]] w fun e w' => e = .returned (.bool false) ∧ Below w.heap.size w w':=by
 subst hk
 go_enter Tryz.func96,Tryz.ntmps96
 go_wp2
 all_goals (go_ret; refine ⟨?_,by first | exact bel1 _ _ | exact bel2 _ _ _⟩; first | rfl | (simp_all))
theorem mayBe_b2 (w : World) (k i l h : Int) (s : ByteArray) (hk : k = 4) (h1 : ¬ l < 0) (h2 : l ≥ h) : Calls Tryz.prog 96 #[.agg #[.int .i64 k,.int .u32 i,.string s,.int .i64 l,.int .i64 h]] w fun e w' => e = .returned (.bool false) ∧ Below w.heap.size w w':=by
 subst hk
 go_enter Tryz.func96,Tryz.ntmps96
 go_wp2
 all_goals (go_ret; refine ⟨?_,by first | exact bel1 _ _ | exact bel2 _ _ _⟩; first | rfl | (simp_all))
theorem mayBe_b3 (w : World) (k i l h : Int) (s : ByteArray) (hk : k = 4) (h1 : ¬ l < 0) (h2 : ¬ l ≥ h) (h3 : h > 512) : Calls Tryz.prog 96 #[.agg #[.int .i64 k,.int .u32 i,.string s,.int .i64 l,.int .i64 h]] w fun e w' => e = .returned (.bool false) ∧ Below w.heap.size w w':=by
 subst hk
 go_enter Tryz.func96,Tryz.ntmps96
 go_wp2
 all_goals (go_ret; refine ⟨?_,by first | exact bel1 _ _ | exact bel2 _ _ _⟩; first | rfl | (simp_all))
theorem mayBe_b5 (w : World) (k i l h : Int) (s : ByteArray) (hk : k = 4) (h1 : ¬ l < 0) (h2 : ¬ l ≥ h) (h3 : ¬ h > 512) : Calls Tryz.prog 96 #[.agg #[.int .i64 k,.int .u32 i,.string s,.int .i64 l,.int .i64 h]] w fun e w' => e = .returned (.bool (i != 0 && tcEq ⟨0,0,s,0,0⟩ ⟨0,0,⟨#[]⟩,0,0⟩)) ∧ Below w.heap.size w w':=by
 subst hk
 have heq:=fun W => eq_tcs W 0 0 0 0 0 0 0 0 s ⟨#[]⟩
 go_enter Tryz.func96,Tryz.ntmps96
 go_wp2
 all_goals (go_ret; refine ⟨?_,by first | exact bel1 _ _ | exact bel2 _ _ _⟩; first | rfl | (simp_all))
theorem mayBe_n1 (w : World) (k i l h : Int) (s : ByteArray) (hk : k = 5) (hs : s.toList.isEmpty = true) : Calls Tryz.prog 96 #[.agg #[.int .i64 k,.int .u32 i,.string s,.int .i64 l,.int .i64 h]] w fun e w' => e = .returned (.bool false) ∧ Below w.heap.size w w':=by
 subst hk
 go_enter Tryz.func96,Tryz.ntmps96
 go_wp2
 all_goals (go_ret; refine ⟨?_,by first | exact bel1 _ _ | exact bel2 _ _ _⟩; first | rfl | (simp_all))
theorem mayBe_n3 (w : World) (k i l h : Int) (s : ByteArray) (hk : k = 5) (hs : s.toList.isEmpty = false) : Calls Tryz.prog 96 #[.agg #[.int .i64 k,.int .u32 i,.string s,.int .i64 l,.int .i64 h]] w fun e w' => e = .returned (.bool (i != 0 && tcEq ⟨0,0,⟨#[]⟩,l,h⟩ ⟨0,0,⟨#[]⟩,0,0⟩)) ∧ Below w.heap.size w w':=by
 subst hk
 have heq:=fun W => eq_tcs W 0 0 l h 0 0 0 0 ⟨#[]⟩ ⟨#[]⟩
 go_enter Tryz.func96,Tryz.ntmps96
 go_wp2
 all_goals (go_ret; refine ⟨?_,by first | exact bel1 _ _ | exact bel2 _ _ _⟩; first | rfl | (simp_all))
theorem mayBe_y1 (w : World) (k i l h : Int) (s : ByteArray) (hk : k = 1) : Calls Tryz.prog 96 #[.agg #[.int .i64 k,.int .u32 i,.string s,.int .i64 l,.int .i64 h]] w fun e w' => e = .returned (.bool (i != 0 && tcEq ⟨0,0,s,l,h⟩ ⟨0,0,⟨#[]⟩,0,0⟩)) ∧ Below w.heap.size w w':=by
 subst hk
 have heq:=fun W => eq_tcs W 0 0 l h 0 0 0 0 s ⟨#[]⟩
 go_enter Tryz.func96,Tryz.ntmps96
 go_wp2
 all_goals (go_ret; refine ⟨?_,by first | exact bel1 _ _ | exact bel2 _ _ _⟩; first | rfl | (simp_all))
theorem mayBe_y2 (w : World) (k i l h : Int) (s : ByteArray) (hk : k = 2) : Calls Tryz.prog 96 #[.agg #[.int .i64 k,.int .u32 i,.string s,.int .i64 l,.int .i64 h]] w fun e w' => e = .returned (.bool (i != 0 && tcEq ⟨0,0,s,l,h⟩ ⟨0,0,⟨#[]⟩,0,0⟩)) ∧ Below w.heap.size w w':=by
 subst hk
 have heq:=fun W => eq_tcs W 0 0 l h 0 0 0 0 s ⟨#[]⟩
 go_enter Tryz.func96,Tryz.ntmps96
 go_wp2
 all_goals (go_ret; refine ⟨?_,by first | exact bel1 _ _ | exact bel2 _ _ _⟩; first | rfl | (simp_all))
theorem mayBe_y3 (w : World) (k i l h : Int) (s : ByteArray) (hk : k = 3) : Calls Tryz.prog 96 #[.agg #[.int .i64 k,.int .u32 i,.string s,.int .i64 l,.int .i64 h]] w fun e w' => e = .returned (.bool (i != 0 && tcEq ⟨0,0,s,l,h⟩ ⟨0,0,⟨#[]⟩,0,0⟩)) ∧ Below w.heap.size w w':=by
 subst hk
 have heq:=fun W => eq_tcs W 0 0 l h 0 0 0 0 s ⟨#[]⟩
 go_enter Tryz.func96,Tryz.ntmps96
 go_wp2
 all_goals (go_ret; refine ⟨?_,by first | exact bel1 _ _ | exact bel2 _ _ _⟩; first | rfl | (simp_all))
theorem mayBe_y6 (w : World) (k i l h : Int) (s : ByteArray) (hk : k = 6) : Calls Tryz.prog 96 #[.agg #[.int .i64 k,.int .u32 i,.string s,.int .i64 l,.int .i64 h]] w fun e w' => e = .returned (.bool (i != 0 && tcEq ⟨0,0,s,l,h⟩ ⟨0,0,⟨#[]⟩,0,0⟩)) ∧ Below w.heap.size w w':=by
 subst hk
 have heq:=fun W => eq_tcs W 0 0 l h 0 0 0 0 s ⟨#[]⟩
 go_enter Tryz.func96,Tryz.ntmps96
 go_wp2
 all_goals (go_ret; refine ⟨?_,by first | exact bel1 _ _ | exact bel2 _ _ _⟩; first | rfl | (simp_all))
theorem mayBe_y7 (w : World) (k i l h : Int) (s : ByteArray) (hk : k = 7) : Calls Tryz.prog 96 #[.agg #[.int .i64 k,.int .u32 i,.string s,.int .i64 l,.int .i64 h]] w fun e w' => e = .returned (.bool (i != 0 && tcEq ⟨0,0,s,l,h⟩ ⟨0,0,⟨#[]⟩,0,0⟩)) ∧ Below w.heap.size w w':=by
 subst hk
 have heq:=fun W => eq_tcs W 0 0 l h 0 0 0 0 s ⟨#[]⟩
 go_enter Tryz.func96,Tryz.ntmps96
 go_wp2
 all_goals (go_ret; refine ⟨?_,by first | exact bel1 _ _ | exact bel2 _ _ _⟩; first | rfl | (simp_all))
theorem mayBe_d (w : World) (k i l h : Int) (s : ByteArray) (h4 : ¬ k = 4) (h5 : ¬ k = 5) (h1 : ¬ k = 1) (h2 : ¬ k = 2) (h3 : ¬ k = 3) (h6 : ¬ k = 6) (h7 : ¬ k = 7) : Calls Tryz.prog 96 #[.agg #[.int .i64 k,.int .u32 i,.string s,.int .i64 l,.int .i64 h]] w fun e w' => e = .returned (.bool false) ∧ Below w.heap.size w w':=by
 go_enter Tryz.func96,Tryz.ntmps96
 go_wp2
 all_goals (go_ret; refine ⟨?_,by first | exact bel1 _ _ | exact bel2 _ _ _⟩; first | rfl | (simp_all))
theorem eq0_tc (s : ByteArray) (l h : Int) : tcEq ⟨0,0,s,l,h⟩ ⟨0,0,⟨#[]⟩,0,0⟩ = (s.toList == [] && (l == 0 && h == 0)):=by
 have e : (⟨#[]⟩ : ByteArray).toList = []:=by simp [ByteArray.toList_eq]
 simp only [tcEq,e,beq_self_eq_true,Bool.true_and,Bool.and_assoc]
theorem tmayBe_any (w : World) (t : Tc) : Calls Tryz.prog 96 #[.agg (tcC t)] w fun e w' => e = .returned (.bool (mayB t)) ∧ Below w.heap.size w w':=by
 obtain ⟨k,i,s,l,h⟩:=t
 unfold tcC
 have fin : ∀ {b : Bool},b = mayB ⟨k,i,s,l,h⟩ → Calls Tryz.prog 96 #[.agg #[.int .i64 k,.int .u32 i,.string s,.int .i64 l,.int .i64 h]] w (fun e w' => e = .returned (.bool b) ∧ Below w.heap.size w w') → Calls Tryz.prog 96 #[.agg #[.int .i64 k,.int .u32 i,.string s,.int .i64 l,.int .i64 h]] w (fun e w' => e = .returned (.bool (mayB ⟨k,i,s,l,h⟩)) ∧ Below w.heap.size w w'):=fun e h => by rw [← e]; exact h
 have ee : s.toList.isEmpty = (s.toList == []):=by cases s.toList <;> rfl
 by_cases h4 : k = 4
 ·by_cases h1 : l < 0
  ·refine fin ?_ (mayBe_b1 w k i l h s h4 h1)
   have : decide (0 ≤ l) = false:=decide_eq_false (by omega)
   simp [mayB,h4,this]
  by_cases h2 : l ≥ h
  ·refine fin ?_ (mayBe_b2 w k i l h s h4 h1 h2)
   have : decide (l < h) = false:=decide_eq_false (by omega)
   simp [mayB,h4,this]
  by_cases h3 : h > 512
  ·refine fin ?_ (mayBe_b3 w k i l h s h4 h1 h2 h3)
   have : decide (h ≤ 512) = false:=decide_eq_false (by omega)
   simp [mayB,h4,this]
  refine fin ?_ (mayBe_b5 w k i l h s h4 h1 h2 h3)
  rw [eq0_tc]
  have a1 : decide (0 ≤ l) = true:=decide_eq_true (by omega)
  have a2 : decide (l < h) = true:=decide_eq_true (by omega)
  have a3 : decide (h ≤ 512) = true:=decide_eq_true (by omega)
  simp [mayB,h4,a1,a2,a3,noName]
 by_cases h5 : k = 5
 ·cases hs : s.toList.isEmpty with
  | true =>
   refine fin ?_ (mayBe_n1 w k i l h s h5 hs)
   rw [ee] at hs
   simp [mayB,h5,noName,hs]
  | false =>
   refine fin ?_ (mayBe_n3 w k i l h s h5 hs)
   rw [ee] at hs
   rw [eq0_tc]
   have e : (⟨#[]⟩ : ByteArray).toList = []:=by simp [ByteArray.toList_eq]
   simp [mayB,h5,noName,noSpan,hs,e]
 by_cases h1 : k = 1
 ·refine fin ?_ (mayBe_y1 w k i l h s h1)
  rw [eq0_tc]
  simp [mayB,h1,noName,noSpan,bareK]
 by_cases h2 : k = 2
 ·refine fin ?_ (mayBe_y2 w k i l h s h2)
  rw [eq0_tc]
  simp [mayB,h2,noName,noSpan,bareK]
 by_cases h3 : k = 3
 ·refine fin ?_ (mayBe_y3 w k i l h s h3)
  rw [eq0_tc]
  simp [mayB,h3,noName,noSpan,bareK]
 by_cases h6 : k = 6
 ·refine fin ?_ (mayBe_y6 w k i l h s h6)
  rw [eq0_tc]
  simp [mayB,h6,noName,noSpan,bareK]
 by_cases h7 : k = 7
 ·refine fin ?_ (mayBe_y7 w k i l h s h7)
  rw [eq0_tc]
  simp [mayB,h7,noName,noSpan,bareK]
 refine fin ?_ (mayBe_d w k i l h s h4 h5 h1 h2 h3 h6 h7)
 simp [mayB,h1,h2,h3,h4,h5,h6,h7,bareK]
theorem tcheck_any (w : World) (t : Tc) : Calls Tryz.prog 79 #[.agg (tcC t)] w fun e w' => e = .returned (.int .i64 (tckE t)) ∧ Below w.heap.size w w':=by
 have hm:=tmayBe_any (w.alloc (.cells (tcC t) 120)) t
 unfold tckE
 obtain ⟨k,i,s,l,h⟩:=t
 unfold tcC at *
 cases hb : mayB ⟨k,i,s,l,h⟩ with
 | true =>
  rw [hb] at hm
  go_enter Tryz.func79,Tryz.ntmps79
  go_wp2_with fail
  refine hm.mono ?_
  rintro e w2 ⟨rfl,hb2⟩
  go_wp2
  go_ret
  exact ⟨rfl,thenB (bel1 _ _) hb2⟩
 | false =>
  rw [hb] at hm
  go_enter Tryz.func79,Tryz.ntmps79
  go_wp2_with fail
  refine hm.mono ?_
  rintro e w2 ⟨rfl,hb2⟩
  go_wp2
  go_ret
  exact ⟨rfl,thenB (bel1 _ _) hb2⟩
end Go.Proofs.YtgajjphjkbnaeaaGreat
