/- DlMap, DlPut, DlPut2, DlN: in one text. -/
import Derived.Test.YtgajjphjkbnaeaaGreatQ1
import Derived.Test.YtgajjphjkbnaeaaGreatQ12
import Derived.Maps.OwnSet
import Derived.Maps.AppendAt
import Derived.DeepKeys5
namespace Go.Proofs.YtgajjphjkbnaeaaGreat
open Go.RowKit
set_option linter.unusedVariables false
set_option maxHeartbeats 32000000
set_option maxRecDepth 100000
set_option linter.unusedSimpArgs false
open Go.RowKit Go.Maps
def hR (v : Value) : Option (DataW Value × List MemPlace):=some (.held v,[])
def kyL (p : Pl) : Lit:=.string (keyBytes [.int .u32 p.ino,.int .i64 p.part,.string p.name.data.toList,.int .u32 p.chunk])
theorem dlLaid : laidOutB Tryz.prog = true:=by kernel_rfl
theorem dlWide : (match Tryz.prog.underlying 110 with | some (.array _ _) | some (.struct _) => true | _ => false) = true:=by rw [Tryz.underlying110]
theorem keyedP : Keyed Tryz.prog 110:=Keyed.of_law (deep_law_laid dlLaid (m:=2) (by omega) (of_decide_eq_true (by kernel_rfl)) (by kernel_rfl) dlWide)
theorem lits_pl {p : Pl} (h : PlOk p) (d : Nat) : Tryz.prog.keyLits (d + 2) 110 (plCells p).toList = some [.int .u32 p.ino,.int .i64 p.part,.string p.name.data.toList,.int .u32 p.chunk]:=by
 have hc : Tryz.prog.cellsOf 110 = 4:=by kernel_rfl
 have h22 : Tryz.prog.cellsOf 30 = 1:=by kernel_rfl
 have h3 : Tryz.prog.cellsOf 3 = 1:=by kernel_rfl
 have h9 : Tryz.prog.cellsOf 9 = 1:=by kernel_rfl
 have w1 : (Lit.int .u32 p.ino).wf = true:=WalkArith.wf_u32 ⟨h.i0,h.i1⟩
 have w2 : (Lit.int .i64 p.part).wf = true:=WalkArith.wf_i64 ⟨h.p0,h.p1⟩
 have w4 : (Lit.int .u32 p.chunk).wf = true:=WalkArith.wf_u32 ⟨h.c0,h.c1⟩
 have hn:=h.n1
 unfold Program.keyLits
 simp only [Tryz.underlying110,plCells,hc]
 simp [Program.keyLits,Tryz.underlying30,Tryz.underlying3,Tryz.underlying9,h22,h3,h9,w1,w2,w4,hn]
theorem key_pl {p : Pl} (h : PlOk p) : keyOf Tryz.prog 110 (plV p) = some (kyL p):=by
 have h1 : (Tryz.prog.keyType 110 && (plV p).formed Tryz.prog 110) = true:=by
  have a : Tryz.prog.keyType 110 = true:=by kernel_rfl
  have hc : Tryz.prog.cellsOf 110 = 4:=by kernel_rfl
  rw [a]
  simp [plV,Value.formed,Tryz.underlying110,hc]
 have h2 : Tryz.prog.types.size + 1 = (Tryz.prog.types.size - 1) + 2:=by
  have : 2 ≤ Tryz.prog.types.size:=of_decide_eq_true (by kernel_rfl)
  omega
 have h3:=lits_pl h (Tryz.prog.types.size - 1)
 rw [← h2] at h3
 unfold keyOf
 rw [Tryz.underlying110]
 dsimp only
 rw [if_pos h1]
 show Option.map _ (Tryz.prog.keyLits (Tryz.prog.types.size + 1) 110 (plCells p).toList) = _
 rw [h3]
 rfl
theorem kyL_inj {p q : Pl} (hp : PlOk p) (hq : PlOk q) (h : kyL p = kyL q) : p = q:=by
 have a:=key_pl hp
 have b:=key_pl hq
 rw [← h] at b
 have e:=keyedP.inj a b
 obtain ⟨i,k,s,c⟩:=p
 obtain ⟨i',k',s',c'⟩:=q
 simp only [plV,Value.agg.injEq,Array.mk.injEq,List.cons.injEq,Value.int.injEq,Value.string.injEq,true_and,and_true] at e
 obtain ⟨e1,e2,e3,e4⟩:=e
 rw [e1,e2,e3,e4]
theorem kyL_str (p : Pl) : WideAt.IsKeyLit (kyL p):=trivial
def entG (c : Cg) : Lit × DataW Value:=(kyL c.pl,.held (.agg (cgC c)))
def MpAt (w : World) (b : Nat) (L : List Cg) : Prop:=∃ es,w.ownsMap Tryz.prog 110 hR b L.length (.map es) ∧ es.Perm (L.map entG)
theorem own_exact {w : World} {P : Program} {k : TypeId} {R : Value → Option (DataW Value × List MemPlace)} {b n : Nat} {D : DataW Value} (h : w.ownsMap P k R b n D) : w.ownsMap P k R b (Maps.size D) D:=by
 obtain ⟨es,cl,hb,F,hs,rfl⟩:=h
 exact ⟨es,cl,hb,F,by simp [Maps.size,length_sorted],rfl⟩
theorem MpAt.keep {w w' : World} {b : Nat} {L : List Cg} (h : MpAt w b L) (hb : w'.heap[b]? = w.heap[b]?) : MpAt w' b L:=by
 obtain ⟨es,⟨e,cl,h1,h2⟩,h3⟩:=h
 exact ⟨es,⟨e,cl,hb.trans h1,h2⟩,h3⟩
theorem MpAt.lt {w : World} {b : Nat} {L : List Cg} (h : MpAt w b L) : b < w.heap.size:=by
 obtain ⟨es,⟨e,cl,h1,h2⟩,h3⟩:=h
 exact (Array.getElem?_eq_some_iff.1 h1).1
theorem MpAt.isMap {w : World} {b : Nat} {L : List Cg} (h : MpAt w b L) : ∃ e cl,w.heap[b]? = some (.map e cl):=by
 obtain ⟨es,⟨e,cl,h1,h2⟩,h3⟩:=h
 exact ⟨e,cl,h1⟩
theorem MpAt.made (w : World) : MpAt (w.alloc (.map #[] 0)) w.heap.size []:=⟨[],World.ownsMap_made w _ _ _,List.Perm.refl _⟩
theorem same_key {p q : Lit} (hq : WideAt.IsKeyLit q) : p.sameKey q = true ↔ p = q:=⟨WideAt.sameKey_eq,fun e => by rw [e]; exact WideAt.sameKey_self hq⟩
theorem es_mem {es : List (Lit × DataW Value)} {L : List Cg} (hp : es.Perm (L.map entG)) (hL : LOk L) {p : Pl} (hpl : PlOk p) {x : Lit × DataW Value} (hx : x ∈ es) (hk : x.1 = kyL p) : ∃ c,getL L p = some c ∧ x = entG c:=by
 obtain ⟨c,hc,rfl⟩:=List.mem_map.1 (hp.mem_iff.1 hx)
 have e : c.pl = p:=kyL_inj (hL.ok c hc).pl hpl hk
 exact ⟨c,(getL_some hL.rise).2 ⟨hc,e⟩,rfl⟩
theorem MpAt.look {w : World} {b : Nat} {L : List Cg} (h : MpAt w b L) (hL : LOk L) {p : Pl} (hpl : PlOk p) :
  (Instr.lookup 98 (.map (some b)) (plV p) true).run Tryz.prog w = .ok (.tuple #[.agg (cgC ((getL L p).getD cg0)),.bool (getL L p).isSome]) w:=by
 obtain ⟨es,ho,hp⟩:=h
 obtain ⟨v,ps,hr,hv⟩:=ho.look_ok keyedP Tryz.underlying98 (zeroCg w) (zd:=.held (.agg (cgC cg0))) (zp:=[]) rfl (key_pl hpl)
 rw [hr]
 simp only [hR,Option.some.injEq,Prod.mk.injEq] at hv
 have hv:=hv.1
 have hmem : ∀ q ∈ L,q.pl = p → entG q ∈ es:=fun q hq e => hp.mem_iff.2 (List.mem_map.2 ⟨q,hq,rfl⟩)
 cases hg : getL L p with
 | none =>
  have hno : ∀ x ∈ es,¬ (x.1.sameKey (kyL p) = true):=by
   intro x hx hk
   obtain ⟨c,hc,_⟩:=es_mem hp hL hpl hx ((same_key (kyL_str p)).1 hk)
   rw [hg] at hc; cases hc
  have h1 : Maps.has (.map es : DataW Value) (kyL p) = false:=by
   rw [has_eq,List.any_eq_false]; exact hno
  have h2 : DataW.atKey (.map es : DataW Value) (kyL p) (.held (.agg (cgC cg0))) = .held (.agg (cgC cg0)):=by
   unfold DataW.atKey
   dsimp only
   rw [List.find?_eq_none.2 hno]
  rw [h1]
  rw [h2] at hv
  cases hv
  rfl
 | some c =>
  obtain ⟨hc,e⟩:=(getL_some hL.rise).1 hg
  have hin:=hmem c hc e
  have hsk : (entG c).1.sameKey (kyL p) = true:=(same_key (kyL_str p)).2 (by rw [← e]; rfl)
  have h1 : Maps.has (.map es : DataW Value) (kyL p) = true:=by
   rw [has_eq]; exact List.any_eq_true.2 ⟨_,hin,hsk⟩
  have h2 : DataW.atKey (.map es : DataW Value) (kyL p) (.held (.agg (cgC cg0))) = .held (.agg (cgC c)):=by
   unfold DataW.atKey
   dsimp only
   cases hf : es.find? (fun q => q.1.sameKey (kyL p)) with
   | none => exact absurd hsk (List.find?_eq_none.1 hf _ hin)
   | some x =>
    obtain ⟨c',hc',rfl⟩:=es_mem hp hL hpl (List.mem_of_find?_eq_some hf) ((same_key (kyL_str p)).1 (List.find?_some (p:=fun q : Lit × DataW Value => q.1.sameKey (kyL p)) hf))
    rw [hg] at hc'
    cases hc'
    rfl
  rw [h1]
  rw [h2] at hv
  cases hv
  rfl
theorem filt {L : List Cg} (hL : LOk L) {p : Pl} (hpl : PlOk p) : (L.map entG).filter (ChangeMaps.notKey (kyL p)) = (delL L p).map entG:=by
 unfold delL
 rw [List.filter_map]
 congr 1
 refine List.filter_congr fun c hc => ?_
 show (!(kyL c.pl).sameKey (kyL p)) = !plEq c.pl p
 congr 1
 rw [Bool.eq_iff_iff,same_key (kyL_str p),plEq_iff]
 exact ⟨fun e => kyL_inj (hL.ok c hc).pl hpl e,fun e => by rw [e]⟩
theorem MpAt.put {w : World} {b : Nat} {L : List Cg} (h : MpAt w b L) (hL : LOk L) (hn : L.length < maxLen) {c : Cg} (hc : CgOk c) :
  ∃ w',(Instr.mapUpdate 98 (.map (some b)) (plV c.pl) (.agg (cgC c))).run Tryz.prog w = .ok () w' ∧ MpAt w' b (setL L c) ∧ w.mapTurned w' b:=by
 obtain ⟨es,ho,hp⟩:=h
 obtain ⟨w',hr,ho',ht⟩:=ho.store keyedP Tryz.underlying98 hn (val:=.agg (cgC c)) (d:=.held (.agg (cgC c))) (ps:=[]) (key_pl hc.pl) rfl
 refine ⟨w',hr,?_,ht⟩
 have hpm : (ChangeMaps.putKey (kyL c.pl) (.held (.agg (cgC c))) es).Perm ((setL L c).map entG):=by
  unfold ChangeMaps.putKey
  refine (WideShapes.insert_perm _ _).trans ?_
  refine (List.Perm.cons _ (hp.filter _)).trans ?_
  rw [filt hL hc.pl]
  exact ((insC_perm c (delL L c.pl)).map entG).symm
 have hx:=own_exact ho'
 rw [DataW.put_eq] at hx
 refine ⟨_,?_,hpm⟩
 have e : Maps.size (.map (ChangeMaps.putKey (kyL c.pl) (.held (.agg (cgC c))) es) : DataW Value) = (setL L c).length:=by
  rw [size_eq,hpm.length_eq,List.length_map]
 rw [e] at hx
 exact hx
theorem MpAt.del {w : World} {b : Nat} {L : List Cg} (h : MpAt w b L) (hL : LOk L) {p : Pl} (hp : PlOk p) (ty : TypeId) :
  ∃ w',(Builtin.delete_ #[98,110] ty #[.map (some b),plV p]).run Tryz.prog w = .ok (.tuple #[]) w' ∧ MpAt w' b (delL L p) ∧ w.mapTurned w' b:=by
 obtain ⟨es,ho,hpm⟩:=h
 obtain ⟨w',hr,ho',ht⟩:=ho.drop keyedP Tryz.underlying98 (key_pl hp) ty
 refine ⟨w',hr,?_,ht⟩
 have hpm' : (ChangeMaps.delKey (kyL p) es).Perm ((delL L p).map entG):=by
  unfold ChangeMaps.delKey
  rw [← filt hL hp]
  exact hpm.filter _
 have hx:=own_exact ho'
 rw [DataW.del_eq] at hx
 refine ⟨_,?_,hpm'⟩
 have e : Maps.size (.map (ChangeMaps.delKey (kyL p) es) : DataW Value) = (delL L p).length:=by
  rw [size_eq,hpm'.length_eq,List.length_map]
 rw [e] at hx
 exact hx
theorem MpAt.len {w : World} {b : Nat} {L : List Cg} (h : MpAt w b L) (ty : TypeId) : (Builtin.len_ #[98] ty #[.map (some b)]).run Tryz.prog w = .ok (.int .i64 L.length) w:=by
 obtain ⟨es,ho,hp⟩:=h
 have:=ho.len Tryz.underlying98 ty
 rwa [size_eq,hp.length_eq,List.length_map] at this
def isD (b : Nat) (w : World) (k : Nat) : Prop:=k = b ∨ (∃ cs fr,w.heap[k]? = some (.cells cs 101 fr)) ∨ (∃ cs fr,w.heap[k]? = some (.cells cs 116 fr))
structure KeepD (b : Nat) (w w' : World) : Prop where
 os : w'.os = w.os
 tape : w'.tape = w.tape
 output : w'.output = w.output
 size : w.heap.size ≤ w'.heap.size
 block : ∀ k,k < w.heap.size → ¬ isD b w k → w'.heap[k]? = w.heap[k]?
theorem isD_keep {b k : Nat} {w w' : World} (h : ¬ isD b w k) (e : w'.heap[k]? = w.heap[k]?) : ¬ isD b w' k:=fun hd => h (by
 unfold isD at hd ⊢
 rw [e] at hd; exact hd)
theorem KeepD.refl (b : Nat) (w : World) : KeepD b w w:=⟨rfl,rfl,rfl,Nat.le_refl _,fun _ _ _ => rfl⟩
theorem KeepD.trans {b : Nat} {A B C : World} (h : KeepD b A B) (k : KeepD b B C) : KeepD b A C :=
 ⟨k.os.trans h.os,k.tape.trans h.tape,k.output.trans h.output,Nat.le_trans h.size k.size,fun i hi hn => (k.block i (Nat.lt_of_lt_of_le hi h.size) (isD_keep hn (h.block i hi hn))).trans (h.block i hi hn)⟩
theorem KeepD.of_below {b : Nat} {w w' : World} (h : Below w.heap.size w w') : KeepD b w w':=⟨h.os,h.tape,h.output,h.size,fun k hk _ => h.block k hk⟩
theorem KeepD.drew {b : Nat} {w w' : World} (h : KeepD b w w') : KeepD b w w'.drew:=⟨h.os,h.tape,h.output,h.size,h.block⟩
theorem own_keep {w w' : World} {base n k : Nat} {e : TypeId} {v : Value} {xs : List Value} (h : w.ownsRow base e k v n xs) (hs : w.heap.size ≤ w'.heap.size) (hb : ∀ q,v.ownBlock = some q → q < w.heap.size → w'.heap[q]? = w.heap[q]?) : w'.ownsRow base e k v n xs:=by
 obtain ⟨h1,h2 | ⟨g,cap,cur,rfl,h3,h4,h5⟩⟩:=h
 ·exact ⟨h1,.inl h2⟩
 ·exact ⟨h1,.inr ⟨g,cap,cur,rfl,h3,(hb g rfl (Array.getElem?_eq_some_iff.1 h4).1).trans h4,h5⟩⟩
theorem own_shape {base n k : Nat} {w : World} {v : Value} {e : TypeId} {xs : List Value} (h : w.ownsRow base e k v n xs) : ∃ a c,v = .slice a n c:=by
 obtain ⟨h1,⟨rfl,h2⟩ | ⟨g,cap,cur,rfl,_⟩⟩:=h
 ·exact ⟨none,0,by rw [h2]⟩
 ·exact ⟨_,_,rfl⟩
theorem own_row {base n k : Nat} {w : World} {v : Value} {e : TypeId} {xs : List Value} (h : w.ownsRow base e k v n xs) {q : Nat} (hq : v.ownBlock = some q) : ∃ cs,w.heap[q]? = some (.cells cs e (0,0)):=by
 obtain ⟨h1,⟨rfl,h2⟩ | ⟨g,cap,cur,rfl,_,h4,_⟩⟩:=h
 ·cases hq
 ·cases hq; exact ⟨cur,h4⟩
theorem wp_app {w w' : World} {v' : Value} {o : Oper} {a : Act} {K : Act → World → Prop} {Q : Exit → Act → World → Prop} (s x : Operand) (t : TypeId)
  (ho : o.op = .call { callee:=.builtin .append,args:=#[s,x],argTypes:=#[t,t] }) (v u : Value) (hs : a.eval s = v) (hx : a.eval x = u)
  (hr : (Builtin.append_ #[t,t] o.type #[v,u]).run Tryz.prog w = .ok v' w') (h : K (a.put o.dst v') w') : o.wp Tryz.prog a w K Q:=by
 unfold Oper.wp execOp
 simp only [ho,resolve,invoke,builtin,Sem.run_bind,Sem.run_pure,Result.andThen_ok,List.map_toArray,List.map_cons,List.map_nil,hs,hx,hr]
 exact h
def dlC (m : Int) (b : Nat) (v : Value) : Array Value:=#[.int .i64 m,.map (some b),v]
structure DlAt (w : World) (p b : Nat) (v : Value) (s : Dl) : Prop where
 row : w.heap[p]? = some (.cells (dlC s.most b v) 101 (0,0))
 mp : MpAt w b s.L
 pus : w.ownsRow 0 116 51 v s.pus.length (s.pus.flatMap puL)
 ok : DlOk s
theorem DlAt.lt {w : World} {p b : Nat} {v : Value} {s : Dl} (h : DlAt w p b v s) : p < w.heap.size:=(Array.getElem?_eq_some_iff.1 h.row).1
theorem DlAt.c0 {w : World} {p b : Nat} {v : Value} {s : Dl} (h : DlAt w p b v s) : w.cell? ⟨p,0,none⟩ = some (.int .i64 s.most):=by rw [cell_of_row _ _ _ _ _ (0,0) h.row]; rfl
theorem DlAt.c1 {w : World} {p b : Nat} {v : Value} {s : Dl} (h : DlAt w p b v s) : w.cell? ⟨p,1,none⟩ = some (.map (some b)):=by rw [cell_of_row _ _ _ _ _ (0,0) h.row]; rfl
theorem DlAt.c2 {w : World} {p b : Nat} {v : Value} {s : Dl} (h : DlAt w p b v s) : w.cell? ⟨p,2,none⟩ = some v:=by rw [cell_of_row _ _ _ _ _ (0,0) h.row]; rfl
theorem DlAt.keep {w w' : World} {p b : Nat} {v : Value} {s : Dl} (h : DlAt w p b v s) (hs : w.heap.size ≤ w'.heap.size) (hk : ∀ k,k < w.heap.size → isD b w k → w'.heap[k]? = w.heap[k]?) : DlAt w' p b v s :=
 ⟨(hk p h.lt (.inr (.inl ⟨_,_,h.row⟩))).trans h.row,h.mp.keep (hk b h.mp.lt (.inl rfl)),own_keep h.pus hs (fun q hq hl => hk q hl (.inr (.inr (by obtain ⟨cs,e⟩:=own_row h.pus hq; exact ⟨cs,_,e⟩)))),h.ok⟩
theorem DlAt.below {w w' : World} {p b : Nat} {v : Value} {s : Dl} (h : DlAt w p b v s) (hb : Below w.heap.size w w') : DlAt w' p b v s:=h.keep hb.size fun k hk _ => hb.block k hk
theorem DlAt.drew {w : World} {p b : Nat} {v : Value} {s : Dl} (h : DlAt w p b v s) : DlAt w.drew p b v s:=⟨h.row,h.mp.keep rfl,own_keep h.pus (Nat.le_refl _) (fun _ _ _ => rfl),h.ok⟩
theorem DlAt.bp {w : World} {p b : Nat} {v : Value} {s : Dl} (h : DlAt w p b v s) : b ≠ p:=fun e => by
 obtain ⟨x,cl,hm⟩:=h.mp.isMap
 rw [e,h.row] at hm
 cases hm
theorem DlAt.shape {w : World} {p b : Nat} {v : Value} {s : Dl} (h : DlAt w p b v s) : ∃ a c,v = .slice a s.pus.length c:=own_shape h.pus
open Go.RowKit Go.Maps
theorem dnew_any (w : World) (m : Int) (hm : m ≤ 9223372036854775807) : Calls Tryz.prog 38 #[.int .i64 m] w fun e w' => e = .returned (.pointer (some ⟨w.heap.size + 1,0,none⟩)) ∧ DlAt w' (w.heap.size + 1) w.heap.size (.slice none 0 0) (newS m) ∧ Below w.heap.size w w':=by
 have hmm:=@run_makeMap Tryz.prog
 have al : ∀ (A : World) (o : Obj),Below A.heap.size A (A.alloc o):=fun A o => (Below.refl _ A).alloc (Nat.le_refl _) o
 have hr : ∀ x : Int,newS m = ⟨x,[],[]⟩ → DlAt ((w.alloc (.map #[] 0)).alloc (.cells #[.int .i64 x,.map (some w.heap.size),.slice none 0 0] 101)) (w.heap.size + 1) w.heap.size (.slice none 0 0) (newS m):=by
  intro x hx
  have hr:=heap_alloc_new (w.alloc (.map #[] 0)) (.cells (dlC x w.heap.size (.slice none 0 0)) 101)
  rw [World.size_alloc] at hr
  have hk:=newS_ok hm
  rw [hx] at hk ⊢
  exact ⟨hr,(MpAt.made w).keep ((al _ _).block _ (MpAt.made w).lt),World.ownsRow_nil _ _ _ _,hk⟩
 have hB : ∀ o,Below w.heap.size w ((w.alloc (.map #[] 0)).alloc o):=fun o => ((Below.refl _ w).alloc (Nat.le_refl _) _).alloc (by simp) _
 by_cases h0 : m < 0
 ·have hx:=hr 0 (by unfold newS; rw [show max m 0 = 0 by omega])
  clear hr
  go_enter Tryz.func38,Tryz.ntmps38
  go_wp2
  go_ret
  exact ⟨rfl,hx,hB _⟩
 ·have hx:=hr m (by unfold newS; rw [show max m 0 = m by omega])
  have h0' : 0 ≤ m:=by omega
  clear hr
  go_enter Tryz.func38,Tryz.ntmps38
  go_wp2
  go_ret
  exact ⟨rfl,hx,hB _⟩
theorem dcount_any {w : World} {p b : Nat} {v : Value} {s : Dl} (h : DlAt w p b v s) : Calls Tryz.prog 119 #[.pointer (some ⟨p,0,none⟩)] w fun e w' => e = .returned (.int .i64 s.L.length) ∧ w = w':=by
 have c1:=h.c1
 have hlen:=fun ty => h.mp.len ty
 go_enter Tryz.func119,Tryz.ntmps119
 go_wp2
 go_ret
 exact ⟨rfl,rfl⟩
theorem dmark_any {w : World} {p b : Nat} {v : Value} {s : Dl} (h : DlAt w p b v s) : Calls Tryz.prog 20 #[.pointer (some ⟨p,0,none⟩)] w fun e w' => e = .returned (.int .i64 s.pus.length) ∧ w = w':=by
 have c2:=h.c2
 obtain ⟨a,c,rfl⟩:=h.shape
 clear h
 go_enter Tryz.func20,Tryz.ntmps20
 go_wp2
 go_ret
 exact ⟨rfl,rfl⟩
structure GetS (w W : World) (p b : Nat) (v : Value) (s : Dl) (q : Pl) : Prop where
 d : DlAt W p b v s
 q : PlAt W w.heap.size q
 r : CgAt W (w.heap.size + 1) cg0
 bel : Below w.heap.size w W
theorem GetS.below {w W W' : World} {p b : Nat} {v : Value} {s : Dl} {q : Pl} (h : GetS w W p b v s q) (hb : Below W.heap.size W W') : GetS w W' p b v s q:=⟨h.d.below hb,h.q.below hb,h.r.below hb,h.bel.trans (hb.mono h.bel.size)⟩
theorem PlAt.drew {w : World} {g : Nat} {p : Pl} (h : PlAt w g p) : PlAt w.drew g p:=⟨h.row⟩
theorem PlAt.load {w : World} {g : Nat} {p : Pl} (h : PlAt w g p) : (Instr.loadAt 110 (.pointer (some ⟨g,0,none⟩))).run Tryz.prog w = .ok (plV p) w:=by
 have hl:=run_loadVar_row (P:=Tryz.prog) w g _ 110 (plCells p) _ _ h.row Tryz.underlying110 rfl (by kernel_rfl)
 simp only [Instr.loadAt,Instr.sureAddr,Sem.run_bind,Sem.run_pure,Result.andThen_ok,hl]
 rfl
theorem DlAt.load1 {w : World} {p b : Nat} {v : Value} {s : Dl} (h : DlAt w p b v s) : (Instr.loadAt 98 (.pointer (some ⟨p,1,none⟩))).run Tryz.prog w = .ok (.map (some b)) w:=by
 have c:=h.c1
 have u:=Tryz.underlying98
 go_simp
theorem dget_any {w : World} {p b : Nat} {v : Value} {s : Dl} (h : DlAt w p b v s) (q : Pl) (hq : PlOk q) : Calls Tryz.prog 76 #[.pointer (some ⟨p,0,none⟩),plV q] w fun e w' =>
  e = .returned (.tuple #[.agg (cgC (wasX s q)),.bool (isX s q)]) ∧ Below w.heap.size w w':=by
 have hz:=zeroCg
 have al : ∀ (A : World) (o : Obj),Below A.heap.size A (A.alloc o):=fun A o => (Below.refl _ A).alloc (Nat.le_refl _) o
 have hS1 : GetS w ((w.alloc (.cells (plCells q) 110)).alloc (.cells (cgC cg0) 114)) p b v s q:=by
  have hr:=CgAt.laid (w.alloc (.cells (plCells q) 110)) cg0
  rw [World.size_alloc] at hr
  exact ⟨(h.below (al _ _)).below (al _ _),(PlAt.laid w q).below (al _ _),hr,((Below.refl _ w).alloc (Nat.le_refl _) _).alloc (by simp) _⟩
 have hpc : plCells q = #[.int .u32 q.ino,.int .i64 q.part,.string q.name,.int .u32 q.chunk]:=rfl
 obtain ⟨w1,hw1⟩ : ∃ w1,(w.alloc (.cells (plCells q) 110)).alloc (.cells (cgC cg0) 114) = w1:=⟨_,rfl⟩
 rw [hw1] at hS1
 rw [hpc] at hw1
 have HW : Hid ((wasX s q).pt.bytes.length = 32):=(getL_ok h.ok.L q).pt.ch.1
 have hlook : ∀ W,DlAt W p b v s → (Instr.lookup 98 (.map (some b)) (plV q) true).run Tryz.prog W = .ok (.tuple #[.agg (cgC (wasX s q)),.bool (isX s q)]) W:=fun W hW => hW.mp.look hW.ok.L hq
 unfold plV
 go_enter Tryz.func76,Tryz.ntmps76
 go_wp2_with fail
 refine wp_region_noPanic ?_
 refine wp_region_held_drew (S:=fun W => GetS w W p b v s q) (by kernel_rfl) ⟨hS1.d.drew,hS1.q.drew,hS1.r.drew,hS1.bel.drew⟩ (fun hHeld => ?_)
 refine tk 0 (.pointer (some ⟨p,0,none⟩)) rfl ?_
 try simp only [nz]
 refine tk 1 (.pointer (some ⟨p,0,none⟩)) rfl ?_
 try simp only [nz]
 refine tk 2 (.pointer (some ⟨p,1,none⟩)) rfl ?_
 try simp only [nz]
 refine wpAnyH_take (i:=3) (v:=.map (some b)) rfl (by kernel_rfl) (by kernel_rfl) (by kernel_rfl) (fun _ _ _ h => h) (yields_load (by rfl) _ _ rfl _ rfl _ (fun W h => h.d.load1)) (by assumption) ?_
 try simp only [nz]
 refine wpAnyH_take (i:=4) (v:=plV q) rfl (by kernel_rfl) (by kernel_rfl) (by kernel_rfl) (fun _ _ _ h => h) (yields_load (by rfl) _ _ rfl _ rfl _ (fun W h => h.q.load)) (by assumption) ?_
 try simp only [nz]
 refine tk 5 (.tuple #[.agg (cgC (wasX s q)),.bool (isX s q)]) rfl ?_ (fun W hSw => by (try dsimp only at hSw); have hk:=hlook W hSw.d; go_simp)
 try simp only [nz]
 refine tk 6 (.tuple #[.agg (cgC (wasX s q)),.bool (isX s q)]) rfl ?_
 try simp only [nz]
 refine tk 7 (.agg (cgC (wasX s q))) rfl ?_
 try simp only [nz]
 refine tk 8 (.bool (isX s q)) rfl ?_
 try simp only [nz]
 refine rd 9 rfl (fun K hK => ?_)
 go_simp
 refine hK.out _ _ (hHeld.below (al _ _)) (fun hHeld2 => ?_)
 clear hK K
 have hn:=(CgAt.laid w1 cg0).drew
 try simp only [nz]
 refine rd 10 rfl (fun K hK => ?_)
 rw [if_pos (by rfl)]
 refine wp_store_row 114 _ _ rfl w1.heap.size (cgC (wasX s q)) rfl rfl 114 (cgC cg0) hn.row (by rw [cgC_size HW.out]; exact size_cg) (by rw [cgC_size HW.out,cgC_size len0]) (one_cg _) ?_
 have hB1 : w.heap.size + 1 < w1.heap.size:=hHeld.r.lt
 have hn2:=hn.setRow (wasX s q)
 have hS9 : GetS w ((w1.alloc (.cells (cgC cg0) 114)).drew.setRow w1.heap.size (cgC (wasX s q))) p b v s q:=⟨hHeld2.d.keep (by simp [World.setRow]) (fun k hk hd => setRow_other _ _ _ _ (fun e => by have:=hn.row; rw [← e] at this; rcases hd with rfl | ⟨cs,fr,hx⟩ | ⟨cs,fr,hx⟩; (obtain ⟨x,cl,hm⟩:=hHeld2.d.mp.isMap; rw [this] at hm; cases hm); (rw [this] at hx; cases hx); (rw [this] at hx; cases hx))),⟨(setRow_other _ _ _ _ (by omega)).trans hHeld2.q.row⟩,hHeld2.r.apartR _ _ (by omega),below_setRow hHeld2.bel (by omega) _⟩
 refine hK.out _ _ hS9 (fun hHeld3 => ?_)
 clear hK K
 refine tk 11 (.bool (isX s q)) rfl ?_
 try simp only [nz]
 refine wpAnyH_done (by kernel_rfl) ?_ _
 refine NoPanic.normal ?_
 have hl9 : Hid _:=hn2.load HW.out
 obtain ⟨w9,hw9⟩ : ∃ w9,(w1.alloc (.cells (cgC cg0) 114)).drew.setRow w1.heap.size (cgC (wasX s q)) = w9:=⟨_,rfl⟩
 rw [hw9] at hS9 hl9 ⊢
 go_wp2_with (first | (refine wpList_loadG rfl 114 _ rfl _ rfl _ hl9.out ?_) | (refine wpList_storeG rfl _ _ rfl (w.heap.size + 1) (wasX s q) cg0 rfl rfl HW.out len0 hS9.r ?_))
 exact ret_cg2 rfl (w.heap.size + 1) (wasX s q) HW.out rfl _ rfl (hS9.r.setRow _) rfl ⟨rfl,below_setRow hS9.bel (by omega) _⟩
structure BehS (w W : World) (p b : Nat) (v : Value) (s : Dl) (x c r : Cg) : Prop where
 d : DlAt W p b v s
 t : TwoS w x c r W
theorem BehS.below {w W W' : World} {p b : Nat} {v : Value} {s : Dl} {x c r : Cg} (h : BehS w W p b v s x c r) (hb : Below W.heap.size W W') : BehS w W' p b v s x c r:=⟨h.d.below hb,h.t.below hb⟩
theorem dcount_r {w : World} {p b : Nat} {v : Value} {s : Dl} (h : DlAt w p b v s) : Calls Tryz.prog 119 #[.pointer (some ⟨p,0,none⟩)] w fun e w' => e = .returned (.int .i64 s.L.length) ∧ w' = w:=(dcount_any h).mono (by rintro e w' ⟨h1,h2⟩; exact ⟨h1,h2.symm⟩)
theorem DlAt.load0 {w : World} {p b : Nat} {v : Value} {s : Dl} (h : DlAt w p b v s) : (Instr.loadAt 3 (.pointer (some ⟨p,0,none⟩))).run Tryz.prog w = .ok (.int .i64 s.most) w:=by
 have c:=h.c0
 have u:=Tryz.underlying3
 go_simp
theorem behind_any {w : World} {p b : Nat} {v : Value} {s : Dl} (h : DlAt w p b v s) (x c : Cg) (is : Bool) (hx : CgOk x) (hc : CgOk c) : Calls Tryz.prog 98 #[.pointer (some ⟨p,0,none⟩),.agg (cgC x),.bool is,.agg (cgC c)] w fun e w' =>
  e = .returned (.tuple #[.agg (cgC (behX s x is c).1),.int .i64 (behX s x is c).2]) ∧ Below w.heap.size w w':=by
 have HA : Hid (x.pt.bytes.length = 32):=hx.pt.ch.1
 have HB : Hid (c.pt.bytes.length = 32):=hc.pt.ch.1
 have hz:=zeroCg
 have hT:=two_laid w x c
 have hD : DlAt (((w.alloc (.cells (cgC x) 114)).alloc (.cells (cgC c) 114)).alloc (.cells (cgC cg0) 114)) p b v s:=by
  have al : ∀ (A : World) (o : Obj),Below A.heap.size A (A.alloc o):=fun A o => (Below.refl _ A).alloc (Nat.le_refl _) o
  exact ((h.below (al _ _)).below (al _ _)).below (al _ _)
 obtain ⟨w1,hw1⟩ : ∃ w1,(((w.alloc (.cells (cgC x) 114)).alloc (.cells (cgC c) 114)).alloc (.cells (cgC cg0) 114)) = w1:=⟨_,rfl⟩
 rw [hw1] at hT hD
 have hlb : Hid _:=hT.b.load HB.out
 go_enter Tryz.func98,Tryz.ntmps98
 go_wp2_with (refine wpList_loadG rfl 114 _ rfl _ rfl _ hlb.out ?_)
 refine (dcheck_any _ c hc).mono ?_
 rintro e w2 ⟨rfl,hb2⟩
 have hT2:=hT.below hb2
 have hD2:=hD.below hb2
 cases hk : ckOk c
 ·have HX : Hid (behX s x is c = (cg0,1)):=by unfold Hid behX; rw [hk]; rfl
  rw [show ckE c = 1 by unfold ckE; rw [hk]; rfl]
  go_wp2_with (first
   | (refine wpList_buildBy rfl 114 _ rfl _ rfl [] (by kernel_rfl) _ built_cg0 ?_)
   | (refine wpList_storeG rfl _ _ rfl (w.heap.size + 1 + 1) cg0 cg0 rfl rfl len0 len0 hT2.r ?_))
  exact ret_cg2 rfl (w.heap.size + 1 + 1) cg0 len0 rfl _ rfl (hT2.setR cg0).r rfl ⟨by rw [HX.out]; rfl,(hT2.setR cg0).bel⟩
 rw [show ckE c = 0 by unfold ckE; rw [hk]; rfl]
 have hla2 : Hid _:=hT2.a.load HA.out
 have hlb2 : Hid _:=hT2.b.load HB.out
 cases is
 ·go_wp2_with fail
  refine wp_region_noPanic ?_
  refine wp_region_held_drew (S:=fun W => BehS w W p b v s x c cg0) (by kernel_rfl) ⟨hD2.drew,hT2.drew⟩ (fun hHeld => ?_)
  refine tk 0 (.pointer (some ⟨p,0,none⟩)) rfl ?_
  try simp only [nz]
  refine tk 2 (.pointer (some ⟨p,0,none⟩)) rfl ?_
  try simp only [nz]
  refine tk 3 (.pointer (some ⟨p,0,none⟩)) rfl ?_
  try simp only [nz]
  refine tk 4 (.pointer (some ⟨p,0,none⟩)) rfl ?_
  try simp only [nz]
  refine wpAnyH_take (i:=5) (v:=.int .i64 s.most) rfl (by kernel_rfl) (by kernel_rfl) (by kernel_rfl) (fun _ _ _ h => h) (yields_load (by rfl) _ _ rfl _ rfl _ (fun W h => h.d.load0)) (by assumption) ?_
  try simp only [nz]
  refine rd 1 rfl (fun K hK => ?_)
  go_simp
  go_wp2_with (go_at_call 119; refine (dcount_r hHeld.d).mono ?_; rintro e w' ⟨rfl,rfl⟩)
  refine hK.out _ _ hHeld (fun hHeld2 => ?_)
  clear hK K
  refine tk 6 (.bool (decide (s.most ≤ (s.L.length : Int)))) rfl ?_
  try simp only [nz]
  refine wpAnyH_done (by kernel_rfl) ?_ _
  refine NoPanic.normal ?_
  by_cases hm : (s.L.length : Int) ≥ s.most
  ·have HX : Hid (behX s x false c = (cg0,201)):=by unfold Hid behX; rw [hk]; simp only [if_true,Bool.false_eq_true,if_false]; rw [if_pos hm]
   go_wp2_with (first
    | (refine wpList_buildBy rfl 114 _ rfl _ rfl [] (by kernel_rfl) _ built_cg0 ?_)
    | (refine wpList_storeG rfl _ _ rfl (w.heap.size + 1 + 1) cg0 cg0 rfl rfl len0 len0 hHeld2.t.r ?_))
   exact ret_cg2 rfl (w.heap.size + 1 + 1) cg0 len0 rfl _ rfl (hHeld2.t.setR cg0).r rfl ⟨by rw [HX.out]; rfl,(hHeld2.t.setR cg0).bel⟩
  ·have HX : Hid (behX s x false c = (c,0)):=by unfold Hid behX; rw [hk]; simp only [if_true,Bool.false_eq_true,if_false]; rw [if_neg hm]
   have hlb3 : Hid _:=hHeld2.t.b.load HB.out
   go_wp2_with (first
    | (refine wpList_loadG rfl 114 _ rfl _ rfl _ hlb3.out ?_)
    | (refine wpList_storeG rfl _ _ rfl (w.heap.size + 1 + 1) c cg0 rfl rfl HB.out len0 hHeld2.t.r ?_))
   exact ret_cg2 rfl (w.heap.size + 1 + 1) c HB.out rfl _ rfl (hHeld2.t.setR c).r rfl ⟨by rw [HX.out]; rfl,(hHeld2.t.setR c).bel⟩
 ·have HX : Hid (behX s x true c = joinX x c):=by unfold Hid behX; rw [hk]; rfl
  have HJ : Hid ((joinX x c).1.pt.bytes.length = 32):=(joinX_ok hx hc).pt.ch.1
  go_wp2_with (first
   | (refine wpList_loadG rfl 114 _ rfl _ rfl _ hla2.out ?_)
   | (refine wpList_loadG rfl 114 _ rfl _ rfl _ hlb2.out ?_))
  refine (djoin_any _ x c hx hc).mono ?_
  rintro e w3 ⟨rfl,hb3⟩
  have hT3:=hT2.below hb3
  go_wp2_with (refine wpList_storeG rfl _ _ rfl (w.heap.size + 1 + 1) (joinX x c).1 cg0 rfl rfl HJ.out len0 hT3.r ?_)
  exact ret_cg2 rfl (w.heap.size + 1 + 1) (joinX x c).1 HJ.out rfl _ rfl (hT3.setR _).r rfl ⟨by rw [HX.out]; rfl,(hT3.setR _).bel⟩
def puC (x : Pu) : Array Value:=(puL x).toArray
theorem built_pu (q : Pl) (c : Cg) (is : Bool) (hc : c.pt.bytes.length = 32) : Tryz.prog.built 116 [(0,plV q),(1,.agg (cgC c)),(2,.bool is)] = some (puC ⟨q,c,is⟩):=by
 have h : ∀ (q p : Pl) (g f : Bool) (n k m l s t : Int) (pf : Bool) (pm : Nat) (d : Nat → Int),Tryz.prog.built 116 [(0,plV q),(1,.agg (cgC ⟨p,g,f,n,k,m,l,s,t,⟨pf,pm,(List.range 32).map d⟩⟩)),(2,.bool is)] = some (puC ⟨q,⟨p,g,f,n,k,m,l,s,t,⟨pf,pm,(List.range 32).map d⟩⟩,is⟩):=by intros; kernel_rfl
 obtain ⟨p,g,f,n,k,m,l,s,t,pt⟩:=c
 dsimp only at hc
 rw [pt_eq hc]; exact h _ _ _ _ _ _ _ _ _ _ _ _ _
theorem slice_pu (x : Pu) (hc : x.was.pt.bytes.length = 32) (w : World) : (Instr.buildSlice 99 1 #[(0,.agg (puC x))]).run Tryz.prog w = .ok (.slice (some ⟨w.heap.size,0,none⟩) 1 1) (w.alloc (.cells (puC x) 116)):=by
 have h : ∀ (q p : Pl) (g f is : Bool) (n k m l s t : Int) (pf : Bool) (pm : Nat) (d : Nat → Int),(Instr.buildSlice 99 1 #[(0,.agg (puC ⟨q,⟨p,g,f,n,k,m,l,s,t,⟨pf,pm,(List.range 32).map d⟩⟩,is⟩))]).run Tryz.prog w = .ok (.slice (some ⟨w.heap.size,0,none⟩) 1 1) (w.alloc (.cells (puC ⟨q,⟨p,g,f,n,k,m,l,s,t,⟨pf,pm,(List.range 32).map d⟩⟩,is⟩) 116)):=by intros; kernel_rfl
 obtain ⟨q,⟨p,g,f,n,k,m,l,s,t,pt⟩,is⟩:=x
 dsimp only at hc
 rw [pt_eq hc]; exact h _ _ _ _ _ _ _ _ _ _ _ _ _ _
open Go.RowKit Go.Maps
theorem info_pu : (Tryz.prog.info? 116).map (fun i => (i.zero,i.size,i.bytes)) = some (some (.agg (puC ⟨pl0,cg0,false⟩)),51,184):=by kernel_rfl
theorem info3 {t : TypeId} {z : Value} {n b : Nat} (h : (Tryz.prog.info? t).map (fun i => (i.zero,i.size,i.bytes)) = some (some z,n,b)) : ∃ i,Tryz.prog.info? t = some i ∧ i.zero = some z ∧ i.size = n ∧ i.bytes = b:=by
 cases hq : Tryz.prog.info? t with
 | none => rw [hq] at h; cases h
 | some i =>
  rw [hq] at h
  simp only [Option.map_some,Option.some.injEq,Prod.mk.injEq] at h
  exact ⟨i,rfl,h.1,h.2.1,h.2.2⟩
theorem puL_one (x : Pu) : ∀ u ∈ puL x,u.oneCell' = true:=by
 intro u hu
 unfold puL at hu
 rcases List.mem_append.1 hu with hu | hu
 ·simp only [plCells,List.mem_cons,List.not_mem_nil,or_false] at hu
  rcases hu with rfl | rfl | rfl | rfl <;> rfl
 ·rcases List.mem_append.1 hu with hu | hu
  ·exact one_cgL _ u hu
  ·rw [List.mem_singleton] at hu; subst hu; rfl
theorem load2_row {w : World} {p b : Nat} {v : Value} {m : Int} (h : w.heap[p]? = some (.cells (dlC m b v) 101 (0,0))) : (Instr.loadAt 99 (.pointer (some ⟨p,2,none⟩))).run Tryz.prog w = .ok v w:=by
 have c : w.cell? ⟨p,2,none⟩ = some v:=by rw [cell_of_row _ _ _ _ _ (0,0) h]; rfl
 have u:=Tryz.underlying99
 go_simp
theorem alloc_row {A : World} (o : Obj) (z : Array Value) : Below A.heap.size A ((A.alloc o).setRow A.heap.size z):=below_setRow ((Below.refl _ A).alloc (Nat.le_refl _) o) (Nat.le_refl _) z
theorem ne_of_type {w : World} {k q : Nat} {e e' : TypeId} {cs cs' : Array Value} {fr fr' : Nat × Nat} (h : w.heap[k]? = some (.cells cs e fr)) (h' : w.heap[q]? = some (.cells cs' e' fr')) (he : e ≠ e') : k ≠ q:=fun x => by
 rw [x,h'] at h
 simp only [Option.some.injEq,Obj.cells.injEq] at h
 exact he h.2.1.symm
theorem wp_buildS {w w' : World} {v : Value} {o : Oper} {a : Act} {K : Act → World → Prop} {Q : Exit → Act → World → Prop} (t : TypeId) (n : Nat) (parts : Array (Nat × Operand)) (ho : o.op = .buildSlice t n parts)
  (vs : Array (Nat × Value)) (hp : (parts.map fun (i,x) => (i,a.eval x)) = vs) (hr : (Instr.buildSlice t n vs).run Tryz.prog w = .ok v w') (h : K (a.put o.dst v) w') : o.wp Tryz.prog a w K Q:=by
 unfold Oper.wp execOp
 simp only [ho,Sem.run_bind,Sem.run_pure,Result.andThen_ok,hp,hr]
 exact h
structure KeepQ (p b : Nat) (v : Value) (w w' : World) (v' : Value) : Prop where
 os : w'.os = w.os
 tape : w'.tape = w.tape
 output : w'.output = w.output
 size : w.heap.size ≤ w'.heap.size
 block : ∀ k,k < w.heap.size → k ≠ p → k ≠ b → v.ownBlock ≠ some k → w'.heap[k]? = w.heap[k]?
 own : ∀ k,v'.ownBlock = some k → v.ownBlock = some k ∨ w.heap.size ≤ k
theorem KeepQ.of_below {p b : Nat} {v : Value} {w w' : World} (h : Below w.heap.size w w') : KeepQ p b v w w' v:=⟨h.os,h.tape,h.output,h.size,fun k hk _ _ _ => h.block k hk,fun k hk => .inl hk⟩
theorem KeepQ.trans {p b : Nat} {v v' v'' : Value} {A B C : World} (h : KeepQ p b v A B v') (k : KeepQ p b v' B C v'') : KeepQ p b v A C v'' :=
 ⟨k.os.trans h.os,k.tape.trans h.tape,k.output.trans h.output,Nat.le_trans h.size k.size,fun i hi h1 h2 h3 => (k.block i (Nat.lt_of_lt_of_le hi h.size) h1 h2 (fun e => by rcases h.own i e with e' | e'; exact h3 e'; omega)).trans (h.block i hi h1 h2 h3),
  fun i hi => by
  rcases k.own i hi with e | e
  ·exact h.own i e
  ·exact .inr (Nat.le_trans h.size e)⟩
theorem KeepQ.keepD {p b : Nat} {v v' : Value} {w w' : World} {s : Dl} (h : KeepQ p b v w w' v') (hD : DlAt w p b v s) : KeepD b w w' :=
 ⟨h.os,h.tape,h.output,h.size,fun k hk hn => h.block k hk (fun e => hn (.inr (.inl ⟨dlC s.most b v,(0,0),by rw [e]; exact hD.row⟩))) (fun e => hn (.inl e)) (fun e => hn (.inr (.inr (by obtain ⟨cs,e1⟩:=own_row hD.pus e; exact ⟨cs,_,e1⟩))))⟩
theorem KeepQ.below {p b B : Nat} {v v' : Value} {w w' : World} (h : KeepQ p b v w w' v') (hp : B ≤ p) (hb : B ≤ b) (hv : ∀ k,v.ownBlock = some k → B ≤ k) (hB : B ≤ w.heap.size) : Below B w w' ∧ ∀ k,v'.ownBlock = some k → B ≤ k :=
 ⟨⟨h.os,h.tape,h.output,h.size,fun k hk => h.block k (by omega) (by omega) (by omega) (fun e => by have:=hv k e; omega)⟩,fun k hk => by
  rcases h.own k hk with e | e
  ·exact hv k e
  ·omega⟩
def PutOut (w : World) (p b : Nat) (v : Value) (s : Dl) (c : Cg) (w' : World) : Prop:=∃ v',DlAt w' p b v' (putS s c) ∧ KeepQ p b v w w' v'
theorem dput_any {w : World} {p b : Nat} {v : Value} {s : Dl} (h : DlAt w p b v s) (c : Cg) (hc : CgOk c) (hL : s.L.length ≤ 5000) (hP : s.pus.length ≤ 5000) : Calls Tryz.prog 85 #[.pointer (some ⟨p,0,none⟩),.agg (cgC c)] w fun e w' =>
  e = .returned (.int .i64 (putX s c).2) ∧ PutOut w p b v s c w':=by
 have HB : Hid (c.pt.bytes.length = 32):=hc.pt.ch.1
 have hwas:=getL_ok h.ok.L c.pl
 have HA : Hid ((wasX s c.pl).pt.bytes.length = 32):=hwas.pt.ch.1
 have HN : Hid ((putX s c).1.pt.bytes.length = 32):=(putX_ok h.ok hc).pt.ch.1
 have hz:=zeroCg
 have al : ∀ (A : World) (o : Obj),Below A.heap.size A (A.alloc o):=fun A o => (Below.refl _ A).alloc (Nat.le_refl _) o
 have hc1:=CgAt.laid w c
 have hB1:=al w (.cells (cgC c) 114)
 have hD1:=h.below hB1
 obtain ⟨w1,hw1⟩ : ∃ w1,w.alloc (.cells (cgC c) 114) = w1:=⟨_,rfl⟩
 rw [hw1] at hc1 hB1 hD1
 have hp1 : Hid _:=hc1.loadP
 go_enter Tryz.func85,Tryz.ntmps85
 go_wp2_with (refine wpList_loadG rfl 110 _ rfl _ rfl _ hp1.out ?_)
 refine (dget_any hD1 c.pl hc.pl).mono ?_
 rintro e w2 ⟨rfl,hb2⟩
 have hc2:=hc1.below hb2
 have hD2:=hD1.below hb2
 have hB2:=thenB hB1 hb2
 have hn2:=CgAt.laid w2 cg0
 have hb3:=alloc_row (A:=w2) (.cells (cgC cg0) 114) (cgC (wasX s c.pl))
 have hg3:=hn2.setRow (wasX s c.pl)
 obtain ⟨w3,hw3⟩ : ∃ w3,(w2.alloc (.cells (cgC cg0) 114)).setRow w2.heap.size (cgC (wasX s c.pl)) = w3:=⟨_,rfl⟩
 rw [hw3] at hb3 hg3
 have hc3:=hc2.below hb3
 have hD3:=hD2.below hb3
 have hB3:=thenB hB2 hb3
 have hl3 : Hid _:=hg3.load HA.out
 have hk3 : Hid _:=hc3.load HB.out
 go_wp2_with (first
  | (refine wpList_storeG rfl _ _ rfl w2.heap.size (wasX s c.pl) cg0 rfl rfl HA.out len0 hn2 ?_; rw [hw3])
  | (refine wpList_loadG rfl 114 _ rfl _ rfl _ hl3.out ?_)
  | (refine wpList_loadG rfl 114 _ rfl _ rfl _ hk3.out ?_))
 refine (behind_any hD3 (wasX s c.pl) c (isX s c.pl) hwas hc).mono ?_
 rintro e w4 ⟨rfl,hb4⟩
 rw [show behX s (wasX s c.pl) (isX s c.pl) c = putX s c from rfl]
 have hc4:=hc3.below hb4
 have hg4:=hg3.below hb4
 have hD4:=hD3.below hb4
 have hB4:=thenB hB3 hb4
 have hn4:=CgAt.laid w4 cg0
 have hb5:=alloc_row (A:=w4) (.cells (cgC cg0) 114) (cgC (putX s c).1)
 have hx5:=hn4.setRow (putX s c).1
 obtain ⟨w5,hw5⟩ : ∃ w5,(w4.alloc (.cells (cgC cg0) 114)).setRow w4.heap.size (cgC (putX s c).1) = w5:=⟨_,rfl⟩
 rw [hw5] at hb5 hx5
 have hc5:=hc4.below hb5
 have hg5:=hg4.below hb5
 have hD5:=hD4.below hb5
 have hB5:=thenB hB4 hb5
 have hK5 : KeepQ p b v w w5 v:=KeepQ.of_below hB5
 obtain ⟨er,her⟩ : ∃ er,(putX s c).2 = er:=⟨_,rfl⟩
 have HE : Hid ((putX s c).2 = er):=her
 rw [her]
 clear her
 by_cases he : er = 0
 ·subst he
  have HS : Hid (putS s c = ⟨s.most,setL s.L (putX s c).1,s.pus ++ [⟨c.pl,wasX s c.pl,isX s c.pl⟩]⟩):=by unfold Hid putS; rw [if_pos HE.out]
  have HPL : Hid ((putX s c).1.pl = c.pl):=putX_pl HE.out
  have hpok : PuOk ⟨c.pl,wasX s c.pl,isX s c.pl⟩:=⟨hc.pl,hwas,fun hh => was_pl h.ok hh⟩
  obtain ⟨a0,cap0,rfl⟩:=h.shape
  obtain ⟨RB,hRB⟩ : ∃ RB,RB = (Value.slice a0 s.pus.length cap0).ownBlock.toList:=⟨_,rfl⟩
  have hRt : ∀ k ∈ RB,∃ cs,w5.heap[k]? = some (.cells cs 116 (0,0)):=fun k hk => by
   rw [hRB,Option.mem_toList] at hk; exact own_row hD5.pus hk
  have hr5:=hD5.row
  have n1 : ∀ k ∈ RB,k ≠ p:=fun k hk => by obtain ⟨cs,e⟩:=hRt k hk; exact ne_of_type e hr5 (by decide)
  have n2 : ∀ k ∈ RB,k ≠ w.heap.size:=fun k hk => by obtain ⟨cs,e⟩:=hRt k hk; exact ne_of_type e hc5.row (by decide)
  have n3 : ∀ k ∈ RB,k ≠ w2.heap.size:=fun k hk => by obtain ⟨cs,e⟩:=hRt k hk; exact ne_of_type e hg5.row (by decide)
  have n4 : ∀ k ∈ RB,k ≠ w4.heap.size:=fun k hk => by obtain ⟨cs,e⟩:=hRt k hk; exact ne_of_type e hx5.row (by decide)
  have n5 : ∀ k ∈ RB,k ≠ b:=fun k hk e => by
   obtain ⟨cs,e1⟩:=hRt k hk
   obtain ⟨x,cl,e2⟩:=hD5.mp.isMap
   rw [e,e2] at e1; cases e1
  have q1 : ∀ W,Sole RB w5 W → W.heap[p]? = some (.cells (dlC s.most b (.slice a0 s.pus.length cap0)) 101 (0,0)):=fun W hW => (hW.block p hD5.lt (fun hk => n1 p hk rfl)).trans hr5
  have q2 : ∀ W,Sole RB w5 W → CgAt W w.heap.size c:=fun W hW => ⟨(hW.block _ hc5.lt (fun hk => n2 _ hk rfl)).trans hc5.row⟩
  have q3 : ∀ W,Sole RB w5 W → CgAt W w2.heap.size (wasX s c.pl):=fun W hW => ⟨(hW.block _ hg5.lt (fun hk => n3 _ hk rfl)).trans hg5.row⟩
  have q4 : ∀ W,Sole RB w5 W → CgAt W w4.heap.size (putX s c).1:=fun W hW => ⟨(hW.block _ hx5.lt (fun hk => n4 _ hk rfl)).trans hx5.row⟩
  have hbs:=fun W => slice_pu ⟨c.pl,wasX s c.pl,isX s c.pl⟩ HA.out W
  obtain ⟨iP,hiP,hp0,hp1',hp2⟩:=info3 info_pu
  go_wp2_with (refine wpList_storeG rfl _ _ rfl w4.heap.size (putX s c).1 cg0 rfl rfl HN.out len0 hn4 ?_; rw [hw5])
  refine wp_region_noPanic ?_
  refine wp_region_sink 14 (S:=fun W => Sole RB w5 W) (by kernel_rfl) (by kernel_rfl) (Sole.drew _ _) (fun hHeld => ?_)
  refine tk 0 (.pointer (some ⟨p,0,none⟩)) rfl ?_
  try simp only [nz]
  refine tk 1 (.pointer (some ⟨p,0,none⟩)) rfl ?_
  try simp only [nz]
  refine tk 2 (.pointer (some ⟨p,0,none⟩)) rfl ?_
  try simp only [nz]
  refine tk 3 (.pointer (some ⟨p,2,none⟩)) rfl ?_
  try simp only [nz]
  refine wpAnyH_take (i:=4) (v:=.slice a0 s.pus.length cap0) rfl (by kernel_rfl) (by kernel_rfl) (by kernel_rfl) (fun _ _ _ h => h) (yields_load (by rfl) _ _ rfl _ rfl _ (fun W h => load2_row (q1 W h))) (by assumption) ?_
  try simp only [nz]
  refine tk 5 (.pointer (some ⟨w.heap.size,0,none⟩)) rfl ?_
  try simp only [nz]
  refine wpAnyH_take (i:=6) (v:=plV c.pl) rfl (by kernel_rfl) (by kernel_rfl) (by kernel_rfl) (fun _ _ _ h => h) (yields_load (by rfl) _ _ rfl _ rfl _ (fun W h => (q2 W h).loadP)) (by assumption) ?_
  try simp only [nz]
  refine wpAnyH_take (i:=7) (v:=.agg (cgC (wasX s c.pl))) rfl (by kernel_rfl) (by kernel_rfl) (by kernel_rfl) (fun _ _ _ h => h) (yields_load (by rfl) _ _ rfl _ rfl _ (fun W h => (q3 W h).load HA.out)) (by assumption) ?_
  try simp only [nz]
  refine tk 8 (.bool (isX s c.pl)) rfl ?_
  try simp only [nz]
  refine wpAnyH_take (i:=9) (v:=.agg (puC ⟨c.pl,wasX s c.pl,isX s c.pl⟩)) rfl (by kernel_rfl) (by kernel_rfl) (by kernel_rfl) (fun _ _ _ h => h) (yields_build (by rfl) 116 _ rfl [(0,plV c.pl),(1,.agg (cgC (wasX s c.pl))),(2,.bool (isX s c.pl))] (by kernel_rfl) _ (built_pu c.pl (wasX s c.pl) (isX s c.pl) HA.out)) (by assumption) ?_
  try simp only [nz]
  refine rd 10 rfl (fun K hK => ?_)
  rw [if_pos (by rfl)]
  refine wp_buildS 99 1 _ rfl #[(0,.agg (puC ⟨c.pl,wasX s c.pl,isX s c.pl⟩))] (by kernel_rfl) (hbs w5.drew) ?_
  have hS6 : Sole RB w5 (w5.drew.alloc (.cells (puC ⟨c.pl,wasX s c.pl,isX s c.pl⟩) 116)):=Sole.of_below ((Below.refl _ w5).drew.alloc (Nat.le_refl _) _) _
  refine hK.out _ _ hS6 (fun hHeld2 => ?_)
  clear hK K
  try simp only [nz]
  have hb6 : Below w5.heap.size w5 (w5.drew.alloc (.cells (puC ⟨c.pl,wasX s c.pl,isX s c.pl⟩) 116)):=(Below.refl _ w5).drew.alloc (Nat.le_refl _) _
  have hrow6 : (w5.drew.alloc (.cells (puC ⟨c.pl,wasX s c.pl,isX s c.pl⟩) 116)).heap[w5.heap.size]? = some (.cells (puC ⟨c.pl,wasX s c.pl,isX s c.pl⟩) 116 (0,0)):=heap_alloc_new _ _
  have hsz6 : w5.heap.size < (w5.drew.alloc (.cells (puC ⟨c.pl,wasX s c.pl,isX s c.pl⟩) 116)).heap.size:=(Array.getElem?_eq_some_iff.1 hrow6).1
  obtain ⟨w6,hw6⟩ : ∃ w6,(w5.drew.alloc (.cells (puC ⟨c.pl,wasX s c.pl,isX s c.pl⟩) 116)) = w6:=⟨_,rfl⟩
  rw [hw6] at hb6 hrow6 hS6 hHeld2 hsz6 ⊢
  have hO6:=own_keep hD5.pus hb6.size (fun q _ hl => hb6.block q hl)
  refine wpAnyH_ready (rs:=[11]) (by kernel_rfl) (by simp) ?_
  refine AllReadyH.cons rfl (fun K' hK' => ?_) AllReadyH.nil
  rw [if_pos (by rfl)]
  obtain ⟨v7,w7,hrun,h7o,h7g,_,h7a⟩:=run_append_own_at (P:=Tryz.prog) w6 0 99 99 116 iP _ 51 184 Tryz.underlying99 hiP hp0 hp1' hp2 (by rw [show (Value.agg (puC ⟨pl0,cg0,false⟩)).cells = puC ⟨pl0,cg0,false⟩ from rfl]; exact puL_len ⟨pl0_ok,cg0_ok,fun e => by cases e⟩) (by decide) (.slice a0 s.pus.length cap0) s.pus.length (s.pus.flatMap puL) hO6 ⟨w5.heap.size,0,none⟩ 1 1 (puL ⟨c.pl,wasX s c.pl,isX s c.pl⟩) (by rw [puL_len hpok]) (fun j u hu => by rw [show (⟨w5.heap.size,0,none⟩ : Addr).add j = ⟨w5.heap.size,j,none⟩ by unfold Addr.add; split <;> simp_all]; rw [cell_of_row _ _ _ _ _ (0,0) hrow6]; simpa [puC] using hu) (puL_one _) (by unfold maxLen; omega) (by omega) (Nat.zero_le _)
  obtain ⟨a7,cap7,rfl⟩:=own_shape h7o
  refine wp_app _ _ 99 rfl _ _ rfl rfl hrun ?_
  have hS67 : Sole RB w6 w7:=⟨h7g.os,h7g.tape,h7g.output,h7g.size,fun k hk hn => h7g.block k hk (fun e => hn (by rw [hRB,Option.mem_toList]; exact e.symm))⟩
  have hS7 : Sole RB w5 w7:=hS6.trans hS67
  refine hK'.out _ _ hS7 (fun hHeld4 => ?_)
  clear hK' K'
  try simp only [nz]
  refine tk 12 (.pointer (some ⟨p,0,none⟩)) rfl ?_
  try simp only [nz]
  refine tk 13 (.pointer (some ⟨p,2,none⟩)) rfl ?_
  try simp only [nz]
  have hG7:=q1 w7 hS7
  have c72 : w7.cell? ⟨p,2,none⟩ = some (.slice a0 s.pus.length cap0):=by rw [cell_of_row _ _ _ _ _ (0,0) hG7]; rfl
  have f72:=frozen_of_row w7 p 2 _ _ hG7
  have hG8:=heap_setCell_same w7 p 2 _ _ (.slice a7 (s.pus.length + 1) cap7) hG7
  have hm7 : MpAt w7 b s.L:=hD5.mp.keep (hS7.block b hD5.mp.lt (fun hk => n5 _ hk rfl))
  obtain ⟨w8,hw8⟩ : ∃ w8,w7.setCell ⟨p,2,none⟩ (.slice a7 (s.pus.length + 1) cap7) = w8:=⟨_,rfl⟩
  have hS78 : Sole [p] w7 w8:=by rw [← hw8]; exact Sole.setCell _ _ (by simp)
  rw [hw8] at hG8
  have hne7 : ∀ k,(Value.slice a7 (s.pus.length + 1) cap7).ownBlock = some k → k ≠ p:=fun k hk => by
   obtain ⟨cs,e⟩:=own_row h7o hk; exact ne_of_type e hG7 (by decide)
  have hO8 : w8.ownsRow 0 116 51 (.slice a7 (s.pus.length + 1) cap7) (s.pus.length + 1) ((s.pus ++ [(⟨c.pl,wasX s c.pl,isX s c.pl⟩ : Pu)]).flatMap puL):=by
   rw [List.flatMap_append,List.flatMap_cons,List.flatMap_nil,List.append_nil]
   exact own_keep h7o hS78.size (fun k hk hl => hS78.block k hl (by have:=hne7 k hk; simpa using this))
  have hbp:=hD5.bp
  have hm8 : MpAt w8 b s.L:=hm7.keep (hS78.block b hm7.lt (by simpa using hbp))
  have x1:=q2 w7 hS7
  have x2:=q4 w7 hS7
  have np1 : w.heap.size ≠ p:=by have:=h.lt; omega
  have np2 : w4.heap.size ≠ p:=by have:=h.lt; have:=hB4.size; omega
  have hc8 : CgAt w8 w.heap.size c:=⟨(hS78.block _ x1.lt (by simpa using np1)).trans x1.row⟩
  have hx8 : CgAt w8 w4.heap.size (putX s c).1:=⟨(hS78.block _ x2.lt (by simpa using np2)).trans x2.row⟩
  have hK8 : Sole (p :: RB) w w8:=((Sole.of_below hB5 _).trans (hS7.mono fun k hk => List.mem_cons_of_mem _ hk)).trans (hS78.mono fun k hk => by rw [List.mem_singleton] at hk; subst hk; exact List.mem_cons_self)
  have HA7 : Hid (∀ k,(Value.slice a7 (s.pus.length + 1) cap7).ownBlock = some k → (Value.slice a0 s.pus.length cap0).ownBlock = some k ∨ w.heap.size ≤ k):=fun k hk => by
   rcases h7a with e | e
   ·left; rw [← e]; exact hk
   ·rw [hk] at e; cases e; right; have:=hB5.size; have:=hb6.size; omega
  have hG8' : w8.heap[p]? = some (.cells (dlC s.most b (.slice a7 (s.pus.length + 1) cap7)) 101 (0,0)):=hG8
  have HG8 : Hid _:=hG8'
  have HO8 : Hid (w8.ownsRow 0 116 51 (.slice a7 (s.pus.length + 1) cap7) (s.pus.length + 1) ((s.pus ++ [(⟨c.pl,wasX s c.pl,isX s c.pl⟩ : Pu)]).flatMap puL)):=hO8
  have HK8 : Hid (Sole (p :: RB) w w8):=hK8
  have HM8 : Hid (MpAt w8 b s.L):=hm8
  refine wpAnyH_done (by kernel_rfl) ?_ _
  refine Behind.run (by rfl) ?_
  go_simp
  go_wp2
  refine NoPanic.normal ?_
  clear q1 q2 q3 q4 hrun h7o h7g h7a hO6 hG7 hG8 hG8' hO8 hK8 hm8 hm7 c72 f72 hS6 hS67 hS7 hS78 hHeld hHeld2 hHeld4 x1 x2
  have c81 : w8.cell? ⟨p,1,none⟩ = some (.map (some b)):=by rw [cell_of_row _ _ _ _ _ (0,0) HG8.out]; rfl
  obtain ⟨w9,hmu,hm9,ht9⟩:=(HM8.out.keep (w':=w8.drew) rfl).put h.ok.L (by unfold maxLen; omega) (putX_ok h.ok hc)
  rw [HPL.out] at hmu
  have hg9:=ht9.grown
  go_wp2_with fail
  refine wp_region_noPanic ?_
  refine wp_region_sink 7 (S:=fun W => Below w8.heap.size w8 W) (by kernel_rfl) (by kernel_rfl) (Below.refl _ _).drew (fun hHeld => ?_)
  refine tk 0 (.pointer (some ⟨p,0,none⟩)) rfl ?_
  try simp only [nz]
  refine tk 1 (.pointer (some ⟨p,0,none⟩)) rfl ?_
  try simp only [nz]
  refine tk 2 (.pointer (some ⟨p,1,none⟩)) rfl ?_
  try simp only [nz]
  refine tk 3 (.map (some b)) rfl ?_ (fun W hSw => by (try dsimp only at hSw); have cc:=(hSw.cell (p:=⟨p,1,none⟩) (Array.getElem?_eq_some_iff.1 HG8.out).1).trans c81; go_simp)
  try simp only [nz]
  refine tk 4 (.pointer (some ⟨w.heap.size,0,none⟩)) rfl ?_
  try simp only [nz]
  refine wpAnyH_take (i:=5) (v:=plV c.pl) rfl (by kernel_rfl) (by kernel_rfl) (by kernel_rfl) (fun _ _ _ h => h) (yields_load (by rfl) _ _ rfl _ rfl _ (fun W h => (hc8.below h).loadP)) (by assumption) ?_
  try simp only [nz]
  refine wpAnyH_take (i:=6) (v:=.agg (cgC (putX s c).1)) rfl (by kernel_rfl) (by kernel_rfl) (by kernel_rfl) (fun _ _ _ h => h) (yields_load (by rfl) _ _ rfl _ rfl _ (fun W h => (hx8.below h).load HN.out)) (by assumption) ?_
  try simp only [nz]
  refine wpAnyH_done (by kernel_rfl) ?_ _
  refine Behind.run (by rfl) ?_
  go_simp
  go_wp2
  refine NoPanic.normal ?_
  go_wp2
  go_ret
  refine ⟨by rw [HE.out]; rfl,.slice a7 (s.pus.length + 1) cap7,?_,?_⟩
  ·rw [HS.out]
   have hsz : w8.drew.heap.size ≤ w9.heap.size:=hg9.size
   have hpl9 : w9.heap[p]? = w8.heap[p]?:=hg9.block p (Array.getElem?_eq_some_iff.1 HG8.out).1 (fun e => hbp (by cases e; rfl))
   have hfin:=own_keep HO8.out hsz (fun q hq hl => hg9.block q hl (fun e => by
     cases e
     obtain ⟨cs,e1⟩:=own_row HO8.out hq
     obtain ⟨x,cl,e2⟩:=HM8.out.isMap
     rw [e1] at e2; cases e2))
   have hlen : (s.pus ++ [(⟨c.pl,wasX s c.pl,isX s c.pl⟩ : Pu)]).length = s.pus.length + 1:=List.length_append
   refine ⟨hpl9.trans HG8.out,hm9,?_,?_⟩
   ·dsimp only
    rw [hlen]
    exact hfin
   ·have:=putS_ok h.ok hc
    rwa [HS.out] at this
  ·have k8:=HK8.out
   exact ⟨hg9.os.trans k8.os,hg9.tape.trans k8.tape,hg9.output.trans k8.output,Nat.le_trans k8.size hg9.size,fun k hk h1 h2 h3 => (hg9.block k (Nat.lt_of_lt_of_le hk k8.size) (fun e => h2 (by cases e; rfl))).trans (k8.block k hk (fun e => by rcases List.mem_cons.1 e with e | e; exact h1 e; rw [hRB,Option.mem_toList] at e; exact h3 e)),HA7.out⟩
 ·have HS : Hid (putS s c = s):=by unfold Hid putS; rw [if_neg (by rw [HE.out]; exact he)]
  go_wp2_with (refine wpList_storeG rfl _ _ rfl w4.heap.size (putX s c).1 cg0 rfl rfl HN.out len0 hn4 ?_; rw [hw5])
  go_ret
  exact ⟨by rw [HE.out]; rfl,v,by rw [HS.out]; exact hD5,hK5⟩
open Go.RowKit Go.Maps
structure DlN (B : Nat) (w0 w : World) (p b : Nat) (s : Dl) : Prop where
 bel : Below B w0 w
 le : B ≤ w.heap.size
 d : ∃ v,DlAt w p b v s ∧ ∀ k,v.ownBlock = some k → B ≤ k
 p : B ≤ p
 b : B ≤ b
theorem DlN.below {B : Nat} {w0 w w' : World} {p b : Nat} {s : Dl} (h : DlN B w0 w p b s) (hb : Below w.heap.size w w') : DlN B w0 w' p b s:=by
 obtain ⟨v,h1,h2⟩:=h.d
 exact ⟨h.bel.trans (hb.mono h.le),Nat.le_trans h.le hb.size,⟨v,h1.below hb,h2⟩,h.p,h.b⟩
theorem DlN.put {B : Nat} {w0 w : World} {p b : Nat} {s : Dl} (h : DlN B w0 w p b s) (c : Cg) (hc : CgOk c) (hL : s.L.length ≤ 1000) (hP : s.pus.length ≤ 1000) : Calls Tryz.prog 85 #[.pointer (some ⟨p,0,none⟩),.agg (cgC c)] w fun e w' =>
  e = .returned (.int .i64 (putX s c).2) ∧ DlN B w0 w' p b (putS s c) ∧ KeepD b w w':=by
 obtain ⟨v,h1,h2⟩:=h.d
 refine (dput_any h1 c hc (Nat.le_trans hL (by decide)) (Nat.le_trans hP (by decide))).mono ?_
 rintro e w' ⟨rfl,v',h3,h4⟩
 obtain ⟨h5,h6⟩:=h4.below h.p h.b h2 h.le
 exact ⟨rfl,⟨h.bel.trans h5,Nat.le_trans h.le h4.size,⟨v',h3,h6⟩,h.p,h.b⟩,h4.keepD h1⟩
theorem DlN.get {B : Nat} {w0 w : World} {p b : Nat} {s : Dl} (h : DlN B w0 w p b s) (q : Pl) (hq : PlOk q) : Calls Tryz.prog 76 #[.pointer (some ⟨p,0,none⟩),plV q] w fun e w' =>
  e = .returned (.tuple #[.agg (cgC (wasX s q)),.bool (isX s q)]) ∧ Below w.heap.size w w':=by
 obtain ⟨v,h1,h2⟩:=h.d
 exact dget_any h1 q hq
theorem DlN.new (w : World) (m : Int) (hm : m ≤ 9223372036854775807) : Calls Tryz.prog 38 #[.int .i64 m] w fun e w' => ∃ p b,e = .returned (.pointer (some ⟨p,0,none⟩)) ∧ DlN w.heap.size w w' p b (newS m) ∧ (∀ k,k < w.heap.size → k ≠ b):=by
 refine (dnew_any w m hm).mono ?_
 rintro e w' ⟨rfl,h1,h2⟩
 exact ⟨_,_,rfl,⟨h2,h2.size,⟨_,h1,fun k hk => by cases hk⟩,by omega,by omega⟩,fun k hk => by omega⟩
end Go.Proofs.YtgajjphjkbnaeaaGreat
