/- RtMap, RtSet, RtAdd: in one text. -/
import Derived.Test.YtgajjphjkbnaeaaGreatQ1
import Derived.Test.YtgajjphjkbnaeaaGreatQ15
import Derived.Maps.OwnSet
import Derived.Maps.AppendAt
import Derived.DeepKeys5
import Derived.Test.YtgajjphjkbnaeaaGreatQ12
namespace Go.Proofs.YtgajjphjkbnaeaaGreat
open Go.RowKit
set_option linter.unusedVariables false
set_option maxHeartbeats 32000000
set_option maxRecDepth 100000
set_option linter.unusedSimpArgs false
open Go.RowKit Go.Maps
def hasL (L : List Tc) (t : Tc) : Bool:=L.any (tcEq t)
theorem hasL_iff {L : List Tc} {t : Tc} : hasL L t = true ↔ t ∈ L:=by
 unfold hasL
 rw [List.any_eq_true]
 exact ⟨fun ⟨x,hx,e⟩ => by rw [tcEq_iff.1 e]; exact hx,fun h => ⟨t,h,tcEq_self t⟩⟩
def kyT (p : Tc) : Lit:=.string (keyBytes [.int .i64 p.kind,.int .u32 p.ino,.string p.name.data.toList,.int .i64 p.lo,.int .i64 p.hi])
theorem tcLaid : laidOutB Tryz.prog = true:=by kernel_rfl
theorem tcWide : (match Tryz.prog.underlying 120 with | some (.array _ _) | some (.struct _) => true | _ => false) = true:=by rw [Tryz.underlying120]
theorem keyedT : Keyed Tryz.prog 120:=Keyed.of_law (deep_law_laid tcLaid (m:=2) (by omega) (of_decide_eq_true (by kernel_rfl)) (by kernel_rfl) tcWide)
theorem lits_tc {p : Tc} (h : TcOk p) (d : Nat) : Tryz.prog.keyLits (d + 2) 120 (tcC p).toList = some [.int .i64 p.kind,.int .u32 p.ino,.string p.name.data.toList,.int .i64 p.lo,.int .i64 p.hi]:=by
 have hc : Tryz.prog.cellsOf 120 = 5:=by kernel_rfl
 have h22 : Tryz.prog.cellsOf 30 = 1:=by kernel_rfl
 have h3 : Tryz.prog.cellsOf 3 = 1:=by kernel_rfl
 have h9 : Tryz.prog.cellsOf 9 = 1:=by kernel_rfl
 have w1 : (Lit.int .i64 p.kind).wf = true:=WalkArith.wf_i64 ⟨h.k0,h.k1⟩
 have w2 : (Lit.int .u32 p.ino).wf = true:=WalkArith.wf_u32 ⟨h.i0,h.i1⟩
 have w3 : (Lit.int .i64 p.lo).wf = true:=WalkArith.wf_i64 ⟨h.l0,h.l1⟩
 have w4 : (Lit.int .i64 p.hi).wf = true:=WalkArith.wf_i64 ⟨h.h0,h.h1⟩
 have hn:=h.n1
 unfold Program.keyLits
 simp only [Tryz.underlying120,tcC,hc]
 simp [Program.keyLits,Tryz.underlying30,Tryz.underlying3,Tryz.underlying9,h22,h3,h9,w1,w2,w3,w4,hn]
theorem key_tc {p : Tc} (h : TcOk p) : keyOf Tryz.prog 120 (.agg (tcC p)) = some (kyT p):=by
 have h1 : (Tryz.prog.keyType 120 && (Value.agg (tcC p)).formed Tryz.prog 120) = true:=by
  have a : Tryz.prog.keyType 120 = true:=by kernel_rfl
  have hc : Tryz.prog.cellsOf 120 = 5:=by kernel_rfl
  rw [a]
  simp [tcC,Value.formed,Tryz.underlying120,hc]
 have h2 : Tryz.prog.types.size + 1 = (Tryz.prog.types.size - 1) + 2:=by
  have : 2 ≤ Tryz.prog.types.size:=of_decide_eq_true (by kernel_rfl)
  omega
 have h3:=lits_tc h (Tryz.prog.types.size - 1)
 rw [← h2] at h3
 unfold keyOf
 rw [Tryz.underlying120]
 dsimp only
 rw [if_pos h1]
 show Option.map _ (Tryz.prog.keyLits (Tryz.prog.types.size + 1) 120 (tcC p).toList) = _
 rw [h3]
 rfl
theorem kyT_inj {p q : Tc} (hp : TcOk p) (hq : TcOk q) (h : kyT p = kyT q) : p = q:=by
 have a:=key_tc hp
 have b:=key_tc hq
 rw [← h] at b
 have e:=keyedT.inj a b
 obtain ⟨k,i,s,l,u⟩:=p
 obtain ⟨k',i',s',l',u'⟩:=q
 simp only [tcC,Value.agg.injEq,Array.mk.injEq,List.cons.injEq,Value.int.injEq,Value.string.injEq,true_and,and_true] at e
 obtain ⟨e1,e2,e3,e4,e5⟩:=e
 rw [e1,e2,e3,e4,e5]
theorem kyT_str (p : Tc) : WideAt.IsKeyLit (kyT p):=trivial
def entT (c : Tc) : Lit × DataW Value:=(kyT c,.held (.agg #[]))
def SpAt (w : World) (b : Nat) (L : List Tc) : Prop:=∃ es,w.ownsMap Tryz.prog 120 hR b L.length (.map es) ∧ es.Perm (L.map entT)
theorem SpAt.keep {w w' : World} {b : Nat} {L : List Tc} (h : SpAt w b L) (hb : w'.heap[b]? = w.heap[b]?) : SpAt w' b L:=by
 obtain ⟨es,⟨e,cl,h1,h2⟩,h3⟩:=h
 exact ⟨es,⟨e,cl,hb.trans h1,h2⟩,h3⟩
theorem SpAt.isMap {w : World} {b : Nat} {L : List Tc} (h : SpAt w b L) : ∃ e cl,w.heap[b]? = some (.map e cl):=by
 obtain ⟨es,⟨e,cl,h1,h2⟩,h3⟩:=h
 exact ⟨e,cl,h1⟩
theorem SpAt.lt {w : World} {b : Nat} {L : List Tc} (h : SpAt w b L) : b < w.heap.size:=by
 obtain ⟨e,cl,h1⟩:=h.isMap
 exact (Array.getElem?_eq_some_iff.1 h1).1
theorem SpAt.made (w : World) : SpAt (w.alloc (.map #[] 0)) w.heap.size []:=⟨[],World.ownsMap_made w _ _ _,List.Perm.refl _⟩
theorem zeroU (w : World) : (zeroValue 167).run Tryz.prog w = .ok (.agg #[]) w:=by
 have h : (Tryz.prog.info? 167).map (fun i => i.zero) = some (some (.agg #[])):=by kernel_rfl
 cases hi : Tryz.prog.info? 167 with
 | none => rw [hi] at h; cases h
 | some i =>
  rw [hi] at h
  simp only [Option.map_some,Option.some.injEq] at h
  simp [zeroValue,typeInfo,hi,h]
theorem es_in {es : List (Lit × DataW Value)} {L : List Tc} (hp : es.Perm (L.map entT)) (hL : ∀ t ∈ L,TcOk t) {p : Tc} (hpl : TcOk p) : (es.any fun x => x.1.sameKey (kyT p)) = hasL L p:=by
 rw [Bool.eq_iff_iff,List.any_eq_true,hasL_iff]
 constructor
 ·rintro ⟨x,hx,hk⟩
  obtain ⟨c,hc,rfl⟩:=List.mem_map.1 (hp.mem_iff.1 hx)
  have : c = p:=kyT_inj (hL c hc) hpl ((same_key (kyT_str p)).1 hk)
  rw [← this]; exact hc
 ·intro h
  exact ⟨entT p,hp.mem_iff.2 (List.mem_map.2 ⟨p,h,rfl⟩),(same_key (kyT_str p)).2 rfl⟩
theorem SpAt.look {w : World} {b : Nat} {L : List Tc} (h : SpAt w b L) (hL : ∀ t ∈ L,TcOk t) {p : Tc} (hpl : TcOk p) :
  (Instr.lookup 103 (.map (some b)) (.agg (tcC p)) true).run Tryz.prog w = .ok (.tuple #[.agg #[],.bool (hasL L p)]) w:=by
 obtain ⟨es,ho,hp⟩:=h
 obtain ⟨v,ps,hr,hv⟩:=ho.look_ok keyedT Tryz.underlying103 (zeroU w) (zd:=.held (.agg #[])) (zp:=[]) rfl (key_tc hpl)
 rw [hr]
 simp only [hR,Option.some.injEq,Prod.mk.injEq] at hv
 have hv:=hv.1
 have h1 : Maps.has (.map es : DataW Value) (kyT p) = hasL L p:=by
  rw [has_eq,es_in hp hL hpl]
 have h2 : DataW.atKey (.map es : DataW Value) (kyT p) (.held (.agg #[])) = .held (.agg #[]):=by
  unfold DataW.atKey
  dsimp only
  cases hf : es.find? (fun q => q.1.sameKey (kyT p)) with
  | none => rfl
  | some x =>
   obtain ⟨c,hc,rfl⟩:=List.mem_map.1 (hp.mem_iff.1 (List.mem_of_find?_eq_some hf))
   rfl
 rw [h1]
 rw [h2] at hv
 cases hv
 rfl
theorem filt_no {L : List Tc} (hL : ∀ t ∈ L,TcOk t) {p : Tc} (hpl : TcOk p) (hn : p ∉ L) : (L.map entT).filter (ChangeMaps.notKey (kyT p)) = L.map entT:=by
 rw [List.filter_eq_self]
 intro x hx
 obtain ⟨c,hc,rfl⟩:=List.mem_map.1 hx
 show (!(kyT c).sameKey (kyT p)) = true
 cases hs : (kyT c).sameKey (kyT p) with
 | false => rfl
 | true =>
  have : c = p:=kyT_inj (hL c hc) hpl ((same_key (kyT_str p)).1 hs)
  exact absurd (this ▸ hc) hn
theorem SpAt.put {w : World} {b : Nat} {L : List Tc} (h : SpAt w b L) (hL : ∀ t ∈ L,TcOk t) (hn : L.length < maxLen) {c : Tc} (hc : TcOk c) (hno : c ∉ L) :
  ∃ w',(Instr.mapUpdate 103 (.map (some b)) (.agg (tcC c)) (.agg #[])).run Tryz.prog w = .ok () w' ∧ SpAt w' b (L ++ [c]) ∧ w.mapTurned w' b:=by
 obtain ⟨es,ho,hp⟩:=h
 obtain ⟨w',hr,ho',ht⟩:=ho.store keyedT Tryz.underlying103 hn (val:=.agg #[]) (d:=.held (.agg #[])) (ps:=[]) (key_tc hc) rfl
 refine ⟨w',hr,?_,ht⟩
 have hpm : (ChangeMaps.putKey (kyT c) (.held (.agg #[])) es).Perm ((L ++ [c]).map entT):=by
  unfold ChangeMaps.putKey
  refine (WideShapes.insert_perm _ _).trans ?_
  refine (List.Perm.cons _ (hp.filter _)).trans ?_
  rw [filt_no hL hc hno,List.map_append]
  exact (List.perm_append_singleton (entT c) (L.map entT)).symm
 have hx:=own_exact ho'
 rw [DataW.put_eq] at hx
 refine ⟨_,?_,hpm⟩
 have e : Maps.size (.map (ChangeMaps.putKey (kyT c) (.held (.agg #[])) es) : DataW Value) = (L ++ [c]).length:=by
  rw [size_eq,hpm.length_eq,List.length_map]
 rw [e] at hx
 exact hx
theorem SpAt.del {w : World} {b : Nat} {A R : List Tc} {p : Tc} (h : SpAt w b (A ++ p :: R)) (hL : ∀ t ∈ A ++ p :: R,TcOk t) (hnd : (A ++ p :: R).Nodup) (ty : TypeId) :
  ∃ w',(Builtin.delete_ #[103,120] ty #[.map (some b),.agg (tcC p)]).run Tryz.prog w = .ok (.tuple #[]) w' ∧ SpAt w' b (A ++ R) ∧ w.mapTurned w' b:=by
 have hp : TcOk p:=hL p (by simp)
 obtain ⟨es,ho,hpm⟩:=h
 obtain ⟨w',hr,ho',ht⟩:=ho.drop keyedT Tryz.underlying103 (key_tc hp) ty
 refine ⟨w',hr,?_,ht⟩
 have hA : p ∉ A:=fun h => by
  have:=(List.nodup_append.1 hnd).2.2
  exact this p h p (by simp) rfl
 have hR' : p ∉ R:=fun h => by
  have:=(List.nodup_append.1 hnd).2.1
  rw [List.nodup_cons] at this
  exact this.1 h
 have hpm' : (ChangeMaps.delKey (kyT p) es).Perm ((A ++ R).map entT):=by
  unfold ChangeMaps.delKey
  refine (hpm.filter _).trans ?_
  rw [List.map_append,List.filter_append,List.map_cons,List.filter_cons,filt_no (fun t ht => hL t (by simp [ht])) hp hA,filt_no (fun t ht => hL t (by simp [ht])) hp hR',List.map_append]
  have : ChangeMaps.notKey (kyT p) (entT p) = false:=by
   show (!(kyT p).sameKey (kyT p)) = false
   rw [(same_key (kyT_str p)).2 rfl]; rfl
  rw [if_neg (by rw [this]; simp)]
 have hx:=own_exact ho'
 rw [DataW.del_eq] at hx
 refine ⟨_,?_,hpm'⟩
 have e : Maps.size (.map (ChangeMaps.delKey (kyT p) es) : DataW Value) = (A ++ R).length:=by
  rw [size_eq,hpm'.length_eq,List.length_map]
 rw [e] at hx
 exact hx
open Go.RowKit Go.Maps
theorem info_tc : (Tryz.prog.info? 120).map (fun i => (i.zero,i.size,i.bytes)) = some (some (.agg (tcC tc0)),5,48):=by kernel_rfl
structure SetAt (w : World) (p b : Nat) (v : Value) (L : List Tc) : Prop where
 row : w.heap[p]? = some (.cells #[v,.map (some b)] 105 (0,0))
 sp : SpAt w b L
 own : w.ownsRow 0 120 5 v L.length (L.flatMap tcE)
 ok : ∀ t ∈ L,TcOk t
 nd : L.Nodup
theorem SetAt.lt {w : World} {p b : Nat} {v : Value} {L : List Tc} (h : SetAt w p b v L) : p < w.heap.size:=(Array.getElem?_eq_some_iff.1 h.row).1
theorem SetAt.keep {w w' : World} {p b : Nat} {v : Value} {L : List Tc} (h : SetAt w p b v L) (hs : w.heap.size ≤ w'.heap.size) (hb : ∀ k,k < w.heap.size → k = p ∨ k = b ∨ v.ownBlock = some k → w'.heap[k]? = w.heap[k]?) : SetAt w' p b v L :=
 ⟨(hb p h.lt (.inl rfl)).trans h.row,h.sp.keep (hb b h.sp.lt (.inr (.inl rfl))),own_keep h.own hs (fun q hq hl => hb q hl (.inr (.inr hq))),h.ok,h.nd⟩
theorem SetAt.below {w w' : World} {p b : Nat} {v : Value} {L : List Tc} (h : SetAt w p b v L) (hb : Below w.heap.size w w') : SetAt w' p b v L:=h.keep hb.size (fun k hk _ => hb.block k hk)
theorem SetAt.drew {w : World} {p b : Nat} {v : Value} {L : List Tc} (h : SetAt w p b v L) : SetAt w.drew p b v L:=h.keep (Nat.le_refl _) (fun k _ _ => rfl)
theorem SetAt.c0 {w : World} {p b : Nat} {v : Value} {L : List Tc} (h : SetAt w p b v L) : w.cell? ⟨p,0,none⟩ = some v:=by rw [cell_of_row _ _ _ _ _ (0,0) h.row]; rfl
theorem SetAt.c1 {w : World} {p b : Nat} {v : Value} {L : List Tc} (h : SetAt w p b v L) : w.cell? ⟨p,1,none⟩ = some (.map (some b)):=by rw [cell_of_row _ _ _ _ _ (0,0) h.row]; rfl
theorem SetAt.load0 {w : World} {p b : Nat} {v : Value} {L : List Tc} (h : SetAt w p b v L) : (Instr.loadAt 102 (.pointer (some ⟨p,0,none⟩))).run Tryz.prog w = .ok v w:=by
 have c:=h.c0
 have u:=Tryz.underlying102
 go_simp
theorem SetAt.load1 {w : World} {p b : Nat} {v : Value} {L : List Tc} (h : SetAt w p b v L) : (Instr.loadAt 103 (.pointer (some ⟨p,1,none⟩))).run Tryz.prog w = .ok (.map (some b)) w:=by
 have c:=h.c1
 have u:=Tryz.underlying103
 go_simp
theorem SetAt.bp {w : World} {p b : Nat} {v : Value} {L : List Tc} (h : SetAt w p b v L) : b ≠ p:=fun e => by
 obtain ⟨x,cl,h1⟩:=h.sp.isMap
 rw [e,h.row] at h1; cases h1
theorem SetAt.vp {w : World} {p b : Nat} {v : Value} {L : List Tc} (h : SetAt w p b v L) {k : Nat} (hk : v.ownBlock = some k) : k ≠ p:=by
 obtain ⟨cs,e⟩:=own_row h.own hk
 exact ne_of_type e h.row (by decide)
theorem SetAt.vb {w : World} {p b : Nat} {v : Value} {L : List Tc} (h : SetAt w p b v L) {k : Nat} (hk : v.ownBlock = some k) : k ≠ b:=fun e => by
 obtain ⟨cs,e1⟩:=own_row h.own hk
 obtain ⟨x,cl,h1⟩:=h.sp.isMap
 rw [e,h1] at e1; cases e1
theorem SetAt.rd {w : World} {p b : Nat} {v : Value} {L : List Tc} (h : SetAt w p b v L) : RdZ 5 tcE w v L:=rdZ_own tc_len h.own
theorem new_any (w : World) : Calls Tryz.prog 41 #[] w fun e w' => e = .returned (ptr (w.heap.size + 1)) ∧ SetAt w' (w.heap.size + 1) w.heap.size (.slice none 0 0) [] ∧ Below w.heap.size w w':=by
 have hmm:=@run_makeMap Tryz.prog
 have al : ∀ (A : World) (o : Obj),Below A.heap.size A (A.alloc o):=fun A o => (Below.refl _ A).alloc (Nat.le_refl _) o
 have hr : SetAt ((w.alloc (.map #[] 0)).alloc (.cells #[.slice none 0 0,.map (some w.heap.size)] 105)) (w.heap.size + 1) w.heap.size (.slice none 0 0) []:=by
  have hr:=heap_alloc_new (w.alloc (.map #[] 0)) (.cells #[.slice none 0 0,.map (some w.heap.size)] 105)
  rw [World.size_alloc] at hr
  exact ⟨hr,(SpAt.made w).keep ((al _ _).block _ (SpAt.made w).lt),World.ownsRow_nil _ _ _ _,(fun t ht => absurd ht (by simp)),List.nodup_nil⟩
 go_enter Tryz.func41,Tryz.ntmps41
 go_wp2
 go_ret
 exact ⟨rfl,hr,bel2 _ _ _⟩
theorem mark_any {w : World} {p b : Nat} {v : Value} {L : List Tc} (h : SetAt w p b v L) : Calls Tryz.prog 21 #[ptr p] w fun e w' => e = .returned (.int .i64 L.length) ∧ w = w':=by
 have c0:=h.c0
 obtain ⟨a,c,rfl⟩:=own_shape h.own
 unfold ptr
 clear h
 go_enter Tryz.func21,Tryz.ntmps21
 go_wp2
 go_ret
 exact ⟨rfl,rfl⟩
theorem tgrown_below {w0 w w' : World} {B : Nat} {v : Value} (hb : Below B w0 w) (hg : w.grownBy w' v.ownBlock) (hv : ∀ g,v.ownBlock = some g → B ≤ g) (hB : B ≤ w.heap.size) : Below B w0 w' :=
 hb.trans ⟨hg.os,hg.tape,hg.output,hg.size,fun k hk => hg.block k (by omega) (fun e => by have:=hv k e.symm; omega)⟩
def addL (L : List Tc) (t : Tc) : List Tc:=if mayB t = true then (if hasL L t = true then L else L ++ [t]) else L
def AddOut (w : World) (p b : Nat) (v : Value) (L : List Tc) (w' : World) : Prop:=∃ v',SetAt w' p b v' L ∧ KeepQ p b v w w' v'
theorem slice_tc (x : Tc) (w : World) : (Instr.buildSlice 102 1 #[(0,.agg (tcC x))]).run Tryz.prog w = .ok (.slice (some ⟨w.heap.size,0,none⟩) 1 1) (w.alloc (.cells (tcC x) 120)):=by
 have h : ∀ (k i l h : Int) (s : ByteArray),(Instr.buildSlice 102 1 #[(0,.agg (tcC ⟨k,i,s,l,h⟩))]).run Tryz.prog w = .ok (.slice (some ⟨w.heap.size,0,none⟩) 1 1) (w.alloc (.cells (tcC ⟨k,i,s,l,h⟩) 120)):=by
  intro k i l h s
  kernel_rfl
 obtain ⟨k,i,s,l,u⟩:=x
 exact h k i l u s
structure AddS (w W : World) (p b : Nat) (v : Value) (L : List Tc) (t : Tc) : Prop where
 s : SetAt W p b v L
 t : TcAt W w.heap.size t
 bel : Below w.heap.size w W
theorem AddS.below {w W W' : World} {p b : Nat} {v : Value} {L : List Tc} {t : Tc} (h : AddS w W p b v L t) (hb : Below W.heap.size W W') : AddS w W' p b v L t:=⟨h.s.below hb,h.t.below hb,thenB h.bel (hb.mono (Nat.le_refl _))⟩
theorem AddS.drew {w W : World} {p b : Nat} {v : Value} {L : List Tc} {t : Tc} (h : AddS w W p b v L t) : AddS w W.drew p b v L t:=⟨h.s.drew,⟨h.t.row⟩,h.bel.drew⟩
theorem add_any {w : World} {p b : Nat} {v : Value} {L : List Tc} (h : SetAt w p b v L) (t : Tc) (ht : TcOk t) (hN : L.length ≤ 20000) : Calls Tryz.prog 59 #[ptr p,.agg (tcC t)] w fun e w' =>
  e = .returned (.int .i64 (tckE t)) ∧ AddOut w p b v (addL L t) w':=by
 have hS1 : AddS w (w.alloc (.cells (tcC t) 120)) p b v L t:=⟨h.below (bel1 _ _),TcAt.laid w t,bel1 _ _⟩
 obtain ⟨w1,hw1⟩ : ∃ w1,w.alloc (.cells (tcC t) 120) = w1:=⟨_,rfl⟩
 rw [hw1] at hS1
 have l1 : Hid _:=hS1.t.load
 have hc:=tcheck_any w1 t
 unfold ptr
 unfold addL
 cases hm : mayB t with
 | false =>
  rw [tckE,if_neg (by rw [hm]; simp)] at hc ⊢
  rw [if_neg (by simp)]
  go_enter Tryz.func59,Tryz.ntmps59
  go_wp2_with (refine wpList_loadG rfl 120 _ rfl _ rfl _ l1.out ?_)
  refine hc.mono ?_
  rintro e w2 ⟨rfl,hb2⟩
  go_wp2
  go_ret
  exact ⟨rfl,_,(hS1.below hb2).s,KeepQ.of_below (hS1.below hb2).bel⟩
 | true =>
 rw [tckE,if_pos hm] at hc ⊢
 rw [if_pos rfl]
 obtain ⟨R,hR⟩ : ∃ R,(if hasL L t = true then L else L ++ [t]) = R:=⟨_,rfl⟩
 rw [hR]
 have HR : Hid _:=hR
 clear hR
 go_enter Tryz.func59,Tryz.ntmps59
 go_wp2_with (refine wpList_loadG rfl 120 _ rfl _ rfl _ l1.out ?_)
 refine hc.mono ?_
 rintro e w2 ⟨rfl,hb2⟩
 have hS2:=hS1.below hb2
 have hlook : ∀ W,AddS w W p b v L t → (Instr.lookup 103 (.map (some b)) (.agg (tcC t)) true).run Tryz.prog W = .ok (.tuple #[.agg #[],.bool (hasL L t)]) W:=fun W hW => hW.s.sp.look hW.s.ok ht
 have hz:=zeroU
 clear hw1 hS1 l1 hc hb2
 go_wp2_with fail
 refine wp_region_noPanic ?_
 refine wp_region_held_drew (S:=fun W => AddS w W p b v L t) (by kernel_rfl) hS2.drew (fun hHeld => ?_)
 refine tk 0 (.pointer (some ⟨p,0,none⟩)) rfl ?_
 try simp only [nz]
 refine tk 1 (.pointer (some ⟨p,0,none⟩)) rfl ?_
 try simp only [nz]
 refine tk 2 (.pointer (some ⟨p,1,none⟩)) rfl ?_
 try simp only [nz]
 refine wpAnyH_take (i:=3) (v:=.map (some b)) rfl (by kernel_rfl) (by kernel_rfl) (by kernel_rfl) (fun _ _ _ h => h) (yields_load (by rfl) _ _ rfl _ rfl _ (fun W h => h.s.load1)) (by assumption) ?_
 try simp only [nz]
 refine wpAnyH_take (i:=4) (v:=.agg (tcC t)) rfl (by kernel_rfl) (by kernel_rfl) (by kernel_rfl) (fun _ _ _ h => h) (yields_load (by rfl) _ _ rfl _ rfl _ (fun W h => h.t.load)) (by assumption) ?_
 try simp only [nz]
 refine tk 5 (.tuple #[.agg #[],.bool (hasL L t)]) rfl ?_ (fun W hSw => by (try dsimp only at hSw); have hk:=hlook W hSw; go_simp)
 try simp only [nz]
 refine tk 6 (.tuple #[.agg #[],.bool (hasL L t)]) rfl ?_
 try simp only [nz]
 refine tk 7 (.agg #[]) rfl ?_
 try simp only [nz]
 refine tk 8 (.bool (hasL L t)) rfl ?_
 try simp only [nz]
 refine rd 9 rfl (fun K hK => ?_)
 go_simp
 refine hK.out _ _ (hHeld.below (bel1 _ _)) (fun hHeld2 => ?_)
 clear hK K
 try simp only [nz]
 refine rd 10 rfl (fun K hK => ?_)
 go_simp
 refine hK.out _ _ hHeld2 (fun hHeld3 => ?_)
 clear hK K
 refine tk 11 (.bool (hasL L t)) rfl ?_
 try simp only [nz]
 refine wpAnyH_done (by kernel_rfl) ?_ _
 refine NoPanic.normal ?_
 clear hHeld hHeld3 hS2 hlook
 obtain ⟨w3,hw3⟩ : ∃ w3,(w2.alloc (.cells #[] 167)).drew = w3:=⟨_,rfl⟩
 rw [hw3] at hHeld2 ⊢
 have hS3:=hHeld2
 clear hHeld2 hw3
 cases hh : hasL L t with
 | true =>
  go_wp2_with fail
  go_ret
  exact ⟨rfl,v,by rw [← HR.out,if_pos hh]; exact hS3.s,KeepQ.of_below hS3.bel⟩
 | false =>
 have HR2 : Hid (R = L ++ [t]):=by unfold Hid; rw [← HR.out,if_neg (by rw [hh]; simp)]
 clear HR
 have hno : t ∉ L:=fun e => by rw [hasL_iff.2 e] at hh; cases hh
 obtain ⟨w4,hmu,hm4,ht4⟩:=(hS3.s.sp.keep (w':=w3.drew) rfl).put hS3.s.ok (by unfold maxLen; omega) ht hno
 have hg4:=ht4.grown
 have HM4 : Hid (SpAt w4 b (L ++ [t])):=hm4
 have hpb:=hS3.s.bp
 clear ht4 hm4
 go_wp2_with fail
 refine wp_region_noPanic ?_
 refine wp_region_sink 6 (S:=fun W => AddS w W p b v L t) (by kernel_rfl) (by kernel_rfl) hS3.drew (fun hHeld => ?_)
 refine tk 0 (.pointer (some ⟨p,0,none⟩)) rfl ?_
 try simp only [nz]
 refine tk 1 (.pointer (some ⟨p,0,none⟩)) rfl ?_
 try simp only [nz]
 refine tk 2 (.pointer (some ⟨p,1,none⟩)) rfl ?_
 try simp only [nz]
 refine wpAnyH_take (i:=3) (v:=.map (some b)) rfl (by kernel_rfl) (by kernel_rfl) (by kernel_rfl) (fun _ _ _ h => h) (yields_load (by rfl) _ _ rfl _ rfl _ (fun W h => h.s.load1)) (by assumption) ?_
 try simp only [nz]
 refine wpAnyH_take (i:=4) (v:=.agg (tcC t)) rfl (by kernel_rfl) (by kernel_rfl) (by kernel_rfl) (fun _ _ _ h => h) (yields_load (by rfl) _ _ rfl _ rfl _ (fun W h => h.t.load)) (by assumption) ?_
 try simp only [nz]
 refine tk 5 (.agg #[]) rfl ?_
 try simp only [nz]
 refine wpAnyH_done (by kernel_rfl) ?_ _
 refine Behind.run (by rfl) ?_
 go_simp
 go_wp2
 refine NoPanic.normal ?_
 have hsz4 : w3.drew.heap.size ≤ w4.heap.size:=hg4.size
 have hsz4' : w3.heap.size ≤ w4.heap.size:=hsz4
 have hp4 : w4.heap[p]? = some (.cells #[v,.map (some b)] 105 (0,0)):=(hg4.block p hS3.s.lt (fun e => hpb (by cases e; rfl))).trans hS3.s.row
 have ht4 : TcAt w4 w.heap.size t:=⟨(hg4.block _ hS3.t.lt (fun e => by
  cases e
  obtain ⟨x,cl,e2⟩:=hS3.s.sp.isMap
  rw [hS3.t.row] at e2; cases e2)).trans hS3.t.row⟩
 have ho4:=own_keep hS3.s.own hsz4 (fun q hq hl => hg4.block q hl (fun e => hS3.s.vb hq (by cases e; rfl)))
 have hK4 : Sole [b] w3 w4:=⟨hg4.os,hg4.tape,hg4.output,hsz4,fun k hk hn => hg4.block k hk (fun e => hn (by cases e; simp))⟩
 have HK4 : Hid (Sole [b] w3 w4):=hK4
 obtain ⟨a0,cap0,rfl⟩:=own_shape h.own
 obtain ⟨RB,hRB⟩ : ∃ RB,RB = (Value.slice a0 L.length cap0).ownBlock.toList:=⟨_,rfl⟩
 have hRt : ∀ k ∈ RB,∃ cs,w4.heap[k]? = some (.cells cs 120 (0,0)):=fun k hk => by
  rw [hRB,Option.mem_toList] at hk; exact own_row ho4 hk
 have n1 : ∀ k ∈ RB,k ≠ p:=fun k hk => by obtain ⟨cs,e⟩:=hRt k hk; exact ne_of_type e hp4 (by decide)
 have n2 : ∀ k ∈ RB,k ≠ w.heap.size:=fun k hk e => by
  rw [hRB,Option.mem_toList] at hk
  obtain ⟨cs,e1⟩:=own_row h.own hk
  have:=(Array.getElem?_eq_some_iff.1 e1).1
  omega
 have n5 : ∀ k ∈ RB,k ≠ b:=fun k hk e => by
  rw [hRB,Option.mem_toList] at hk
  exact hS3.s.vb hk e
 have q1 : ∀ W,Sole RB w4 W → W.heap[p]? = some (.cells #[.slice a0 L.length cap0,.map (some b)] 105 (0,0)):=fun W hW => (hW.block p (Array.getElem?_eq_some_iff.1 hp4).1 (fun hk => n1 p hk rfl)).trans hp4
 have q1l : ∀ W,Sole RB w4 W → (Instr.loadAt 102 (.pointer (some ⟨p,0,none⟩))).run Tryz.prog W = .ok (.slice a0 L.length cap0) W:=fun W hW => by
  have c : W.cell? ⟨p,0,none⟩ = some (.slice a0 L.length cap0):=by rw [cell_of_row _ _ _ _ _ (0,0) (q1 W hW)]; rfl
  have u:=Tryz.underlying102
  go_simp
 have q2 : ∀ W,Sole RB w4 W → TcAt W w.heap.size t:=fun W hW => ⟨(hW.block _ ht4.lt (fun hk => n2 _ hk rfl)).trans ht4.row⟩
 have hbs:=slice_tc t
 obtain ⟨iP,hiP,hp0,hp1',hp2⟩:=info_parts info_tc
 have HB3 : Hid (Below w.heap.size w w3):=hS3.bel
 have HOK : Hid (∀ x ∈ L,TcOk x):=hS3.s.ok
 have HND : Hid L.Nodup:=hS3.s.nd
 have HS3b : Hid (b < w3.heap.size):=hS3.s.sp.lt
 have HPS : Hid (p < w.heap.size):=h.lt
 clear hg4 hS3 hHeld hmu
 go_wp2_with fail
 refine wp_region_noPanic ?_
 refine wp_region_sink 10 (S:=fun W => Sole RB w4 W) (by kernel_rfl) (by kernel_rfl) (Sole.drew _ _) (fun hHeld => ?_)
 refine tk 0 (.pointer (some ⟨p,0,none⟩)) rfl ?_
 try simp only [nz]
 refine tk 1 (.pointer (some ⟨p,0,none⟩)) rfl ?_
 try simp only [nz]
 refine tk 2 (.pointer (some ⟨p,0,none⟩)) rfl ?_
 try simp only [nz]
 refine tk 3 (.pointer (some ⟨p,0,none⟩)) rfl ?_
 try simp only [nz]
 refine wpAnyH_take (i:=4) (v:=.slice a0 L.length cap0) rfl (by kernel_rfl) (by kernel_rfl) (by kernel_rfl) (fun _ _ _ h => h) (yields_load (by rfl) _ _ rfl _ rfl _ q1l) (by assumption) ?_
 try simp only [nz]
 refine wpAnyH_take (i:=5) (v:=.agg (tcC t)) rfl (by kernel_rfl) (by kernel_rfl) (by kernel_rfl) (fun _ _ _ h => h) (yields_load (by rfl) _ _ rfl _ rfl _ (fun W h => (q2 W h).load)) (by assumption) ?_
 try simp only [nz]
 refine rd 6 rfl (fun K hK => ?_)
 rw [if_pos (by rfl)]
 refine wp_buildS 102 1 _ rfl #[(0,.agg (tcC t))] (by kernel_rfl) (hbs w4.drew) ?_
 have hb6 : Below w4.heap.size w4 (w4.drew.alloc (.cells (tcC t) 120)):=(Below.refl _ w4).drew.alloc (Nat.le_refl _) _
 have hS6 : Sole RB w4 (w4.drew.alloc (.cells (tcC t) 120)):=Sole.of_below hb6 _
 refine hK.out _ _ hS6 (fun hHeld2 => ?_)
 clear hK K
 try simp only [nz]
 have hrow6 : (w4.drew.alloc (.cells (tcC t) 120)).heap[w4.heap.size]? = some (.cells (tcC t) 120 (0,0)):=heap_alloc_new _ _
 have hsz6 : w4.heap.size < (w4.drew.alloc (.cells (tcC t) 120)).heap.size:=(Array.getElem?_eq_some_iff.1 hrow6).1
 obtain ⟨w6,hw6⟩ : ∃ w6,(w4.drew.alloc (.cells (tcC t) 120)) = w6:=⟨_,rfl⟩
 rw [hw6] at hb6 hrow6 hS6 hHeld2 hsz6 ⊢
 have hO6:=own_keep ho4 hb6.size (fun q _ hl => hb6.block q hl)
 refine rd 7 rfl (fun K hK => ?_)
 rw [if_pos (by rfl)]
 obtain ⟨v7,w7,hrun,h7o,h7g,_,h7a⟩:=run_append_own_at (P:=Tryz.prog) w6 0 102 102 120 iP _ 5 48 Tryz.underlying102 hiP hp0 hp1' hp2 rfl (by decide) (.slice a0 L.length cap0) L.length (L.flatMap tcE) hO6 ⟨w4.heap.size,0,none⟩ 1 1 (tcE t) rfl (fun j u hu => by rw [show (⟨w4.heap.size,0,none⟩ : Addr).add j = ⟨w4.heap.size,j,none⟩ by unfold Addr.add; split <;> simp_all]; rw [cell_of_row _ _ _ _ _ (0,0) hrow6]; simpa [tcC,tcE] using hu) (tc_one _) (by unfold maxLen; omega) (by omega) (Nat.zero_le _)
 obtain ⟨a7,cap7,rfl⟩:=own_shape h7o
 refine wp_app _ _ 102 rfl _ _ rfl rfl hrun ?_
 have hS67 : Sole RB w6 w7:=⟨h7g.os,h7g.tape,h7g.output,h7g.size,fun k hk hn => h7g.block k hk (fun e => hn (by rw [hRB,Option.mem_toList]; exact e.symm))⟩
 have hS7 : Sole RB w4 w7:=hS6.trans hS67
 refine hK.out _ _ hS7 (fun hHeld4 => ?_)
 clear hK K
 try simp only [nz]
 refine tk 8 (.pointer (some ⟨p,0,none⟩)) rfl ?_
 try simp only [nz]
 refine tk 9 (.pointer (some ⟨p,0,none⟩)) rfl ?_
 try simp only [nz]
 have hG7:=q1 w7 hS7
 have c72 : w7.cell? ⟨p,0,none⟩ = some (.slice a0 L.length cap0):=by rw [cell_of_row _ _ _ _ _ (0,0) hG7]; rfl
 have f72:=frozen_of_row w7 p 0 _ _ hG7
 have hG8:=heap_setCell_same w7 p 0 _ _ (.slice a7 (L.length + 1) cap7) hG7
 have hm7 : SpAt w7 b (L ++ [t]):=HM4.out.keep (hS7.block b HM4.out.lt (fun hk => n5 _ hk rfl))
 obtain ⟨w8,hw8⟩ : ∃ w8,w7.setCell ⟨p,0,none⟩ (.slice a7 (L.length + 1) cap7) = w8:=⟨_,rfl⟩
 have hS78 : Sole [p] w7 w8:=by rw [← hw8]; exact Sole.setCell _ _ (by simp)
 rw [hw8] at hG8
 have hne7 : ∀ k,(Value.slice a7 (L.length + 1) cap7).ownBlock = some k → k ≠ p:=fun k hk => by
  obtain ⟨cs,e⟩:=own_row h7o hk; exact ne_of_type e hG7 (by decide)
 have hO8 : w8.ownsRow 0 120 5 (.slice a7 (L.length + 1) cap7) (L.length + 1) ((L ++ [t]).flatMap tcE):=by
  rw [List.flatMap_append,List.flatMap_cons,List.flatMap_nil,List.append_nil]
  exact own_keep h7o hS78.size (fun k hk hl => hS78.block k hl (by have:=hne7 k hk; simpa using this))
 have hm8 : SpAt w8 b (L ++ [t]):=hm7.keep (hS78.block b hm7.lt (by simpa using hpb))
 have hK8 : Sole (p :: b :: RB) w w8:=(((Sole.of_below HB3.out _).trans (HK4.out.mono fun k hk => by simp at hk; simp [hk])).trans (hS7.mono fun k hk => by simp [hk])).trans (hS78.mono fun k hk => by simp at hk; simp [hk])
 have HA7 : Hid (∀ k,(Value.slice a7 (L.length + 1) cap7).ownBlock = some k → (Value.slice a0 L.length cap0).ownBlock = some k ∨ w.heap.size ≤ k):=fun k hk => by
  rcases h7a with e | e
  ·left; rw [← e]; exact hk
  ·rw [hk] at e; cases e; right; have:=HB3.out.size; have:=hb6.size; omega
 have HG8 : Hid (w8.heap[p]? = some (.cells #[.slice a7 (L.length + 1) cap7,.map (some b)] 105 (0,0))):=hG8
 have HO8 : Hid (w8.ownsRow 0 120 5 (.slice a7 (L.length + 1) cap7) (L.length + 1) ((L ++ [t]).flatMap tcE)):=hO8
 have HK8 : Hid (Sole (p :: b :: RB) w w8):=hK8
 have HM8 : Hid (SpAt w8 b (L ++ [t])):=hm8
 refine wpAnyH_done (by kernel_rfl) ?_ _
 refine Behind.run (by rfl) ?_
 go_simp
 go_wp2
 refine NoPanic.normal ?_
 clear q1 q1l q2 hrun h7o h7g h7a hO6 hG7 hG8 hO8 hK8 hm8 hm7 c72 f72 hS6 hS67 hS7 hS78 hHeld hHeld2 hHeld4
 go_wp2
 go_ret
 rw [HR2.out]
 refine ⟨rfl,.slice a7 (L.length + 1) cap7,⟨HG8.out,HM8.out,by rw [List.length_append]; exact HO8.out,fun x hx => ?_,?_⟩,?_⟩
 ·rcases List.mem_append.1 hx with hx | hx
  ·exact HOK.out x hx
  ·rw [List.mem_singleton] at hx; rw [hx]; exact ht
 ·rw [List.nodup_append]
  refine ⟨HND.out,by simp,fun x hx y hy e => ?_⟩
  rw [List.mem_singleton] at hy
  rw [e,hy] at hx
  exact hno hx
 ·have k8:=HK8.out
  exact ⟨k8.os,k8.tape,k8.output,k8.size,fun k hk h1 h2 h3 => k8.block k hk (fun e => by rcases List.mem_cons.1 e with e | e; exact h1 e; rcases List.mem_cons.1 e with e | e; exact h2 e; rw [hRB,Option.mem_toList] at e; exact h3 e),HA7.out⟩
end Go.Proofs.YtgajjphjkbnaeaaGreat
