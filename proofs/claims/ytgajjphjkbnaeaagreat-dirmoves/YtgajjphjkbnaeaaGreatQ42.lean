/- DlUndo1, DlBack, DlDel, DlUndo, DlUndoE, DlBk: in one text. -/
import Derived.Test.YtgajjphjkbnaeaaGreatQ1
import Derived.Test.YtgajjphjkbnaeaaGreatQ13
import Derived.Test.YtgajjphjkbnaeaaGreatQ21
import Derived.Deep.RegionLaw
import Derived.ArgAppend
import Derived.Deep.DeepAppendRoom
import Derived.Test.YtgajjphjkbnaeaaGreatQ12
import Derived.Test.YtgajjphjkbnaeaaGreatQ22
import Derived.Test.YtgajjphjkbnaeaaGreatQ41
namespace Go.Proofs.YtgajjphjkbnaeaaGreat
open Go.RowKit
set_option linter.unusedVariables false
set_option maxHeartbeats 32000000
set_option maxRecDepth 100000
set_option linter.unusedSimpArgs false
open Go.RowKit Go.Maps
structure PuAt (w : World) (g : Nat) (x : Pu) : Prop where
 row : w.heap[g]? = some (.cells (puC x) 116 (0,0))
theorem PuAt.lt {w : World} {g : Nat} {x : Pu} (h : PuAt w g x) : g < w.heap.size:=(Array.getElem?_eq_some_iff.1 h.row).1
theorem PuAt.below {w w' : World} {g : Nat} {x : Pu} (h : PuAt w g x) (hb : Below w.heap.size w w') : PuAt w' g x:=⟨(hb.block g h.lt).trans h.row⟩
theorem PuAt.c50 {w : World} {g : Nat} {x : Pu} (h : PuAt w g x) (hl : x.was.pt.bytes.length = 32) : w.cell? ⟨g,50,none⟩ = some (.bool x.is):=by
 rw [cell_of_row _ _ _ _ _ (0,0) h.row,← Array.getElem?_toList]
 show (puL x)[50]? = _
 unfold puL
 rw [List.getElem?_append_right (show 4 ≤ 50 by decide),List.getElem?_append_right (by rw [cgL_len hl]; show 46 ≤ 50 - 4; decide),cgL_len hl]
 rfl
theorem puC_mid (x : Pu) (hl : x.was.pt.bytes.length = 32) : ((puC x).extract 4 (4 + 46)).toList = cgL x.was:=by
 simp only [puC,puL,plCells,Array.toList_extract,List.extract_eq_take_drop]
 simp only [List.cons_append,List.nil_append,List.drop_succ_cons,List.drop_zero]
 rw [List.take_append_of_le_length (by rw [cgL_len hl]; decide)]
 exact List.take_of_length_le (by rw [cgL_len hl]; decide)
theorem PuAt.loadC {w : World} {g : Nat} {x : Pu} (h : PuAt w g x) (hl : x.was.pt.bytes.length = 32) : (Instr.loadAt 114 (.pointer (some ⟨g,4,none⟩))).run Tryz.prog w = .ok (.agg (cgC x.was)) w:=by
 have hr : w.rangeAt g 4 (cgL x.was):=by
  have:=World.rangeAt_of_block h.row 4 46
  rwa [puC_mid x hl] at this
 exact run_loadAt_mid (P:=Tryz.prog) w g 4 114 _ _ hr Tryz.underlying114 rfl (by rw [cgL_len hl]; exact size_cg)
theorem PuAt.loadP {w : World} {g : Nat} {x : Pu} (h : PuAt w g x) : (Instr.loadAt 110 (.pointer (some ⟨g,0,none⟩))).run Tryz.prog w = .ok (plV x.pl) w:=by
 have hr : w.rangeAt g 0 (plCells x.pl).toList:=World.rangeAt_of_block h.row 0 4
 exact run_loadAt_mid w g 0 110 (plCells x.pl).toList _ hr Tryz.underlying110 rfl (by kernel_rfl)
theorem DlAt.mpT {w w' : World} {p b : Nat} {v : Value} {s : Dl} {L : List Cg} (h : DlAt w p b v s) (hg : w.grownBy w' (some b)) (hm : MpAt w' b L) (hL : LOk L) : DlAt w' p b v ⟨s.most,L,s.pus⟩ :=
 ⟨(hg.block p h.lt (fun e => h.bp (by cases e; rfl))).trans h.row,hm,own_keep h.pus hg.size (fun q hq hl => hg.block q hl (fun e => by
  cases e
  obtain ⟨cs,e1⟩:=own_row h.pus hq
  obtain ⟨x,cl,e2⟩:=h.mp.isMap
  rw [e1] at e2; cases e2)),⟨h.ok.m0,h.ok.m1,hL,h.ok.pus⟩⟩
theorem undo1_any {w : World} {p b : Nat} {v : Value} {s : Dl} (h : DlAt w p b v s) (x : Pu) (hx : PuOk x) (hL : s.L.length ≤ 20000) : Calls Tryz.prog 48 #[.pointer (some ⟨p,0,none⟩),.agg (puC x)] w fun e w' =>
  (∃ r,e = .returned r) ∧ DlAt w' p b v ⟨s.most,undo1 s.L x,s.pus⟩ ∧ Sole [b] w w':=by
 have HW : Hid (x.was.pt.bytes.length = 32):=hx.was.pt.ch.1
 have hb1 : Below w.heap.size w (w.alloc (.cells (puC x) 116)):=(Below.refl _ w).alloc (Nat.le_refl _) _
 have hx1 : PuAt (w.alloc (.cells (puC x) 116)) w.heap.size x:=⟨heap_alloc_new w _⟩
 have hD1:=h.below hb1
 obtain ⟨w1,hw1⟩ : ∃ w1,w.alloc (.cells (puC x) 116) = w1:=⟨_,rfl⟩
 rw [hw1] at hb1 hx1 hD1
 have c50:=hx1.c50 HW.out
 have hDd : DlAt w1.drew p b v s:=hD1.drew
 cases hi : x.is
 ·rw [hi] at c50
  obtain ⟨w2,hde,hm2,ht2⟩:=hDd.mp.del hD1.ok.L hx.pl 0
  have hde' : ∀ ty,(Builtin.delete_ #[98,110] ty #[.map (some b),plV x.pl]).run Tryz.prog w1.drew = .ok (.tuple #[]) w2:=fun ty => hde
  have hg2:=ht2.grown
  have HF : Hid (DlAt w2 p b v ⟨s.most,undo1 s.L x,s.pus⟩):=by
   unfold Hid undo1
   rw [hi]
   exact hDd.mpT hg2 hm2 (delL_ok hD1.ok.L _)
  have HS : Hid (Sole [b] w w2):=(Sole.of_below hb1 _).trans ⟨hg2.os,hg2.tape,hg2.output,hg2.size,fun k hk hn => hg2.block k hk (fun e => hn (by cases e; simp))⟩
  clear hde hm2 ht2 hg2
  go_enter Tryz.func48,Tryz.ntmps48
  go_wp2_with fail
  refine wp_region_noPanic ?_
  refine wp_region_sink 6 (S:=fun W => Below w1.heap.size w1 W) (by kernel_rfl) (by kernel_rfl) (Below.refl _ _).drew (fun hHeld => ?_)
  refine tk 0 (.pointer (some ⟨p,0,none⟩)) rfl ?_
  try simp only [nz]
  refine tk 1 (.pointer (some ⟨p,0,none⟩)) rfl ?_
  try simp only [nz]
  refine tk 2 (.pointer (some ⟨p,1,none⟩)) rfl ?_
  try simp only [nz]
  refine wpAnyH_take (i:=3) (v:=.map (some b)) rfl (by kernel_rfl) (by kernel_rfl) (by kernel_rfl) (fun _ _ _ h => h) (yields_load (by rfl) _ _ rfl _ rfl _ (fun W h => (hD1.below h).load1)) (by assumption) ?_
  try simp only [nz]
  refine tk 4 (.pointer (some ⟨w.heap.size,0,none⟩)) rfl ?_
  try simp only [nz]
  refine wpAnyH_take (i:=5) (v:=plV x.pl) rfl (by kernel_rfl) (by kernel_rfl) (by kernel_rfl) (fun _ _ _ h => h) (yields_load (by rfl) _ _ rfl _ rfl _ (fun W h => (hx1.below h).loadP)) (by assumption) ?_
  try simp only [nz]
  refine wpAnyH_done (by kernel_rfl) ?_ _
  refine Behind.run (by rfl) ?_
  go_simp
  go_wp2
  refine NoPanic.normal ?_
  go_wp2
  go_end0
  exact ⟨⟨_,rfl⟩,HF.out,HS.out⟩
 ·rw [hi] at c50
  obtain ⟨w2,hmu,hm2,ht2⟩:=hDd.mp.put hD1.ok.L (by unfold maxLen; omega) hx.was
  rw [hx.at_ hi] at hmu
  have hg2:=ht2.grown
  have HF : Hid (DlAt w2 p b v ⟨s.most,undo1 s.L x,s.pus⟩):=by
   unfold Hid undo1
   rw [hi]
   exact hDd.mpT hg2 hm2 (setL_ok hD1.ok.L hx.was)
  have HS : Hid (Sole [b] w w2):=(Sole.of_below hb1 _).trans ⟨hg2.os,hg2.tape,hg2.output,hg2.size,fun k hk hn => hg2.block k hk (fun e => hn (by cases e; simp))⟩
  clear hm2 ht2 hg2
  go_enter Tryz.func48,Tryz.ntmps48
  go_wp2_with fail
  refine wp_region_noPanic ?_
  refine wp_region_sink 8 (S:=fun W => Below w1.heap.size w1 W) (by kernel_rfl) (by kernel_rfl) (Below.refl _ _).drew (fun hHeld => ?_)
  refine tk 0 (.pointer (some ⟨p,0,none⟩)) rfl ?_
  try simp only [nz]
  refine tk 1 (.pointer (some ⟨p,0,none⟩)) rfl ?_
  try simp only [nz]
  refine tk 2 (.pointer (some ⟨p,1,none⟩)) rfl ?_
  try simp only [nz]
  refine wpAnyH_take (i:=3) (v:=.map (some b)) rfl (by kernel_rfl) (by kernel_rfl) (by kernel_rfl) (fun _ _ _ h => h) (yields_load (by rfl) _ _ rfl _ rfl _ (fun W h => (hD1.below h).load1)) (by assumption) ?_
  try simp only [nz]
  refine tk 4 (.pointer (some ⟨w.heap.size,0,none⟩)) rfl ?_
  try simp only [nz]
  refine wpAnyH_take (i:=5) (v:=plV x.pl) rfl (by kernel_rfl) (by kernel_rfl) (by kernel_rfl) (fun _ _ _ h => h) (yields_load (by rfl) _ _ rfl _ rfl _ (fun W h => (hx1.below h).loadP)) (by assumption) ?_
  try simp only [nz]
  refine tk 6 (.pointer (some ⟨w.heap.size,4,none⟩)) rfl ?_
  try simp only [nz]
  refine wpAnyH_take (i:=7) (v:=.agg (cgC x.was)) rfl (by kernel_rfl) (by kernel_rfl) (by kernel_rfl) (fun _ _ _ h => h) (yields_load (by rfl) _ _ rfl _ rfl _ (fun W h => (hx1.below h).loadC HW.out)) (by assumption) ?_
  try simp only [nz]
  refine wpAnyH_done (by kernel_rfl) ?_ _
  refine Behind.run (by rfl) ?_
  go_simp
  go_wp2
  refine NoPanic.normal ?_
  go_wp2
  go_end0
  exact ⟨⟨_,rfl⟩,HF.out,HS.out⟩
open Go.RowKit Go.Shelf Go.Maps
attribute [local go_sem] Oper.semAt_some
structure PuI where
 i : Nat
 x : Pu
 ok : PuOk x
def pu0 : Pu:=⟨pl0,cg0,false⟩
theorem pu0_ok : PuOk pu0:=⟨pl0_ok,cg0_ok,fun e => by cases e⟩
theorem zeroPu (w : World) : (zeroValue 116).run Tryz.prog w = .ok (.agg (puC pu0)) w:=by
 have h : (Tryz.prog.info? 116).map (fun i => (i.zero,i.size)) = some (some (.agg (puC pu0)),51):=by kernel_rfl
 exact (zero_of_info h).1 w
theorem size_pu : (Tryz.prog.info? 116).map (·.size) = some 51:=by kernel_rfl
theorem puC_size {x : Pu} (h : PuOk x) : (puC x).size = 51:=by rw [show (puC x).size = (puL x).length from rfl]; exact puL_len h
theorem one_pu (x : Pu) : (puC x).all (·.oneCell') = true:=Array.all_eq_true_iff_forall_mem.2 fun u hu => puL_one x u (by simpa [puC] using hu)
theorem getD_ok {xs : List Pu} (h : ∀ x ∈ xs,PuOk x) (i : Nat) : PuOk (xs.getD i pu0):=by
 rw [List.getD_eq_getElem?_getD]
 cases hq : xs[i]? with
 | none => exact pu0_ok
 | some x => exact h x (List.mem_of_getElem? hq)
def backE (xs : List Pu) (h : ∀ x ∈ xs,PuOk x) (j : Nat) : PuI:=⟨xs.length - 1 - j,xs.getD (xs.length - 1 - j) pu0,getD_ok h _⟩
structure KeepB (n₀ b : Nat) (W W' : World) : Prop where
 size : W.heap.size ≤ W'.heap.size
 block : ∀ k,k < n₀ → k ≠ b → W'.heap[k]? = W.heap[k]?
theorem KeepB.refl (n₀ b : Nat) (W : World) : KeepB n₀ b W W:=⟨Nat.le_refl _,fun _ _ _ => rfl⟩
theorem KeepB.t {n₀ b : Nat} {A B C : World} (h : KeepB n₀ b A B) (k : KeepB n₀ b B C) : KeepB n₀ b A C:=⟨Nat.le_trans h.size k.size,fun i h1 h2 => (k.block i h1 h2).trans (h.block i h1 h2)⟩
theorem KeepB.b {n₀ b : Nat} {w : World} (hn : n₀ ≤ w.heap.size) (W : World) (l : Nat) (o o' : Obj) (hl : w.heap.size ≤ l) (_ : W.heap[l]? = some o) (_ : o.isCells = false) (_ : o.isWalk = false) : KeepB n₀ b W (W.putObj l o') :=
 ⟨by simp,fun k hk _ => World.putObj_heap_other (by omega)⟩
theorem backward_any (w : World) (a : Option Addr) (n c : Nat) : Calls Tryz.prog 47 #[.slice a n c] w fun e w' => e = .returned (.func (.func 72) #[] #[.pointer (some ⟨w.heap.size,0,none⟩)]) ∧ w' = w.alloc (.cells #[.slice a n c] 99):=by
 go_enter Tryz.func47,Tryz.ntmps47
 go_wp2
 go_ret
 exact ⟨rfl,rfl⟩
theorem back_stops (n : Nat) (hn : 1 ≤ n) (Bs b n₀ : Nat) (a : Option Addr) (cap : Nat) (xs : List Pu) (hx : ∀ x ∈ xs,PuOk x) (w : World) (hBs : Bs < n₀) (hBb : Bs ≠ b) (hn₀ : n₀ ≤ w.heap.size)
  (hc : w.cell? ⟨Bs,0,none⟩ = some (.slice a xs.length cap)) (hm : cap ≤ maxLen) (hle : xs.length ≤ cap) (hl : xs.length ≤ 20000)
  (hI : 0 < xs.length → ∃ g off,a = some ⟨g,off,none⟩ ∧ g < n₀ ∧ g ≠ b ∧ ∀ i,i < xs.length → w.rangeAt g (off + i * 51) (puL (xs.getD i pu0))) :
  SeqStopsK Fence.wide n Tryz.prog 72 #[.pointer (some ⟨Bs,0,none⟩)] (fun x : PuI => #[.int .i64 (x.i : Int),.agg (puC x.x)]) (KeepB n₀ b) (fun ys => ys = (List.range xs.length).map (backE xs hx)) (fun _ => True) xs.length w:=fun l J Jx W hW _ _ hY h0 => by
 unfold maxLen at hm
 have hc':=(hW.cell (p:=⟨Bs,0,none⟩) (by show Bs < _; omega)).trans hc
 obtain ⟨len,hlen⟩ : ∃ len,xs.length = len:=⟨_,rfl⟩
 have HLEN : Hid (xs.length = len):=hlen
 have HI : Hid (0 < len → ∃ g off,a = some ⟨g,off,none⟩ ∧ g < n₀ ∧ g ≠ b ∧ ∀ i,i < len → w.rangeAt g (off + i * 51) (puL (xs.getD i pu0))):=by rw [← hlen]; exact hI
 rw [hlen] at hc' hle hl
 have hwm : ∀ q : Int,-1 ≤ q → q ≤ 20000 → IntKind.i64.wrap (q - 1) = q - 1:=fun q h1 h2 => Go.IntWalk.i64_in _ (by omega)
 have hY' : ∀ pre x W1,J pre W1 → pre.length < len → YieldAt Fence.wide (n - 1) Tryz.prog l #[.int .i64 (x.i : Int),.agg (puC x.x)] W1 fun e W' =>
   (e = .returned (.bool true) ∧ J (pre ++ [x]) W' ∧ KeepB n₀ b W1 W') ∨ (e = .returned (.bool false) ∧ Jx (pre ++ [x]) W'):=by rw [← hlen]; exact hY
 rw [hlen]
 clear hlen hI hY hc
 refine callsIn_of_wp Tryz.func72 rfl trivial ?_ rfl
 simp only [Tryz.ntmps72,List.size_toArray,List.length_cons,List.length_nil,Nat.reduceAdd,Nat.reduceSub,Array.replicate_succ,Array.replicate_zero,List.push_toArray,List.append_toArray,List.nil_append,List.cons_append]
 have hw0 : IntKind.i64.wrap ((len : Int) - 1) = (len : Int) - 1:=hwm _ (by omega) (by omega)
 gi_wp2
 gi_loopw [3] (fun t wr => ∃ (m : Nat) (q : Int),m ≤ len ∧ t = .int .i64 q ∧ Hid (q = (len : Int) - 1 - m) ∧ J ((List.range m).map (backE xs hx)) wr ∧ Hid (KeepB n₀ b W wr))
  (fun t _ => (intOf t + 1).toNat)
 case atStart => exact ⟨0,(len : Int) - 1,Nat.zero_le _,rfl,(show Hid _ by unfold Hid; omega),h0,KeepB.refl _ _ _⟩
 case round =>
  obtain ⟨m,q,hmle,rfl,HQ,hJs,HK⟩:=hrel
  have hqe:=HQ.out
  by_cases hlt : m < len
  ·obtain ⟨r,hr⟩ : ∃ r : Nat,q = (r : Int):=⟨(len - 1 - m),by omega⟩
   subst hr
   have hrl : r < len:=by omega
   have hre : r = len - 1 - m:=by omega
   obtain ⟨g,off,rfl,hg,hgb,hat⟩:=HI.out (by omega)
   have hBsr:=(World.cell?_of_block (a:=⟨Bs,0,none⟩) (HK.out.block Bs hBs hBb)).trans hc'
   have hbe : backE xs hx m = ⟨r,xs.getD r pu0,getD_ok hx r⟩:=by
    have e : ∀ k,k = r → (⟨k,xs.getD k pu0,getD_ok hx k⟩ : PuI) = ⟨r,xs.getD r pu0,getD_ok hx r⟩:=by rintro _ rfl; rfl
    exact e _ (by rw [HLEN.out]; exact hre.symm)
   have hok:=getD_ok hx r
   have hrg : wr.rangeAt g (off + r * 51) (puL (xs.getD r pu0)):=fun j u hu => (World.cell?_of_block (a:=⟨g,off + r * 51 + j,none⟩) (HK.out.block g hg hgb)).trans ((World.cell?_of_block (a:=⟨g,off + r * 51 + j,none⟩) (hW.block g (by omega))).trans (hat r hrl j u hu))
   have hld:=run_loadAt_mid (P:=Tryz.prog) wr g (off + r * 51) 116 _ _ hrg Tryz.underlying116 rfl (by rw [puL_len hok]; exact size_pu)
   obtain ⟨x,hxe⟩ : ∃ x,xs.getD r pu0 = x:=⟨_,rfl⟩
   rw [hxe] at hok hld
   have hbe' : backE xs hx m = ⟨r,x,hok⟩:=by rw [hbe]; subst hxe; rfl
   have HT : Hid ((List.range (m + 1)).map (backE xs hx) = (List.range m).map (backE xs hx) ++ [⟨r,x,hok⟩]):=by
    unfold Hid; rw [List.range_succ,List.map_append,List.map_cons,List.map_nil,hbe']
   obtain ⟨fn,tmps,assign,body,hyi,hRR⟩:=hY' _ ⟨r,x,hok⟩ wr hJs (by simp; omega)
   dsimp only at hyi
   have HLD : Hid ((Instr.loadAt 116 (.pointer (some ⟨g,off + r * 51,none⟩))).run Tryz.prog wr = .ok (.agg (puC x)) wr):=hld
   have hqI : (0 : Int) ≤ (r : Int):=by omega
   have hrI : (r : Int) < (len : Int):=by omega
   have hwr : IntKind.i64.wrap ((r : Int) - 1) = (r : Int) - 1:=hwm _ (by omega) (by omega)
   have HQ' : Hid ((r : Int) - 1 = (len : Int) - 1 - (m + 1 : Nat)):=by unfold Hid; push_cast; omega
   clear hat hrg hld hbe hbe' hxe hqe HQ hre
   gi_wp2_with (refine wpListIn_loadS rfl 116 _ rfl _ rfl _ HLD.out ?_)
   refine hRR.mono ?_
   rintro e W3 (⟨rfl,hJ3,hk3⟩ | ⟨rfl,hJx3⟩)
   ·gi_wp2
    go_roundw
    case rel => exact ⟨m + 1,(r : Int) - 1,by omega,rfl,HQ',by rw [HT.out]; exact hJ3,HK.out.t hk3⟩
    case measure => (simp [intOf] <;> omega)
   ·gi_wp2
    refine bodyPost_ret (results_none rfl _ _ _) rfl ?_
    exact ⟨⟨_,rfl⟩,.inr ⟨_,trivial,hJx3⟩⟩
  ·obtain rfl : m = len:=by omega
   have hqn : ¬ (0 : Int) ≤ q:=by omega
   gi_wp2
   go_end0
   first | exact ⟨⟨_,rfl⟩,.inl ⟨_,rfl,hJs⟩⟩ | exact ⟨⟨_,rfl⟩,.inl hJs⟩
theorem drun_clear_row (P : Program) (w : World) (t e ty : TypeId) (z : Value) (ht : P.underlying t = some (.slice e)) (hv : ∀ w,(zeroValue e).run P w = .ok z w) (g o n c : Nat) (cur : Array Value) (hn : 0 < n) (h1 : ∀ u ∈ (Builtin.zeroCells z.cells n).toList,u.oneCell' = true)
  (hg : w.heap[g]? = some (.cells cur e (0,0))) (hfit : o + (Builtin.zeroCells z.cells n).toList.length ≤ cur.size) :
  (Builtin.clear_ #[t] ty #[.slice (some ⟨g,o,none⟩) n c]).run P w = .ok (.tuple #[]) (w.setRow g (cur.toList.take o ++ (Builtin.zeroCells z.cells n).toList ++ cur.toList.drop (o + (Builtin.zeroCells z.cells n).toList.length)).toArray):=by
 have hst:=run_storeCells_at P g o e (Builtin.zeroCells z.cells n).toList 0 cur w hg (by simpa using hfit) h1
 simp only [Nat.add_zero] at hst
 obtain ⟨m,rfl⟩ : ∃ m,n = m + 1:=⟨n - 1,by omega⟩
 simp [Builtin.clear_,run_underlying ht,hv]
 simp at hst
 rw [hst]
 rfl
theorem dzc_one (n : Nat) : ∀ u ∈ (Builtin.zeroCells (Value.agg (puC ⟨pl0,cg0,false⟩)).cells n).toList,u.oneCell' = true:=by
 intro u hu
 have hz : ∀ v ∈ (puC ⟨pl0,cg0,false⟩).toList,v.oneCell' = true:=fun v hv => puL_one _ v (by simpa [puC] using hv)
 obtain ⟨t,ht,rfl⟩:=List.mem_iff_getElem.1 hu
 have hs : (puC ⟨pl0,cg0,false⟩).size = 51:=puL_len ⟨pl0_ok,cg0_ok,fun e => by cases e⟩
 have hlt : t % 51 < 51:=Nat.mod_lt _ (by decide)
 have e : (Builtin.zeroCells (Value.agg (puC ⟨pl0,cg0,false⟩)).cells n).toList[t] = (puC ⟨pl0,cg0,false⟩)[t % 51]!:=by
  simp [Builtin.zeroCells,Value.cells,hs]
 rw [e,getElem!_pos _ _ (by rw [hs]; exact hlt)]
 exact hz _ (by simp)
theorem dzc_len (n : Nat) : (Builtin.zeroCells (Value.agg (puC ⟨pl0,cg0,false⟩)).cells n).toList.length = n * 51:=by
 have hs : (puC ⟨pl0,cg0,false⟩).size = 51:=puL_len ⟨pl0_ok,cg0_ok,fun e => by cases e⟩
 simp [Builtin.zeroCells,Value.cells,hs]
theorem delPu_any (w : World) (g n c m : Nat) (cur : Array Value) (hg : w.heap[g]? = some (.cells cur 116 (0,0))) (hcs : cur.size = c * 51) (hn : n ≤ c) (hcm : c ≤ maxLen) (hm : m < n) :
  Calls Tryz.prog 49 #[.slice (some ⟨g,0,none⟩) n c,.int .i64 m,.int .i64 n] w fun e w' => e = .returned (.slice (some ⟨g,0,none⟩) m c) ∧ ∃ cs,w'.heap[g]? = some (.cells cs 116 (0,0)) ∧ cs.size = c * 51 ∧ cs.toList.take (m * 51) = cur.toList.take (m * 51) ∧ Sole [g] w w':=by
 unfold maxLen at hcm
 obtain ⟨iE,hiE,hz0,hz1,hz2⟩:=info3 info_pu
 have hzv : ∀ w,(zeroValue 116).run Tryz.prog w = .ok (Value.agg (puC ⟨pl0,cg0,false⟩)) w:=by intro w; simp [zeroValue,typeInfo,hiE,hz0]
 have hj : 0 < n - m:=by omega
 have hgd : w.drew.heap[g]? = some (.cells cur 116 (0,0)):=hg
 obtain ⟨W2,hW2⟩ : ∃ W2,w.drew.setRow g (cur.toList.take (m * 51) ++ (Builtin.zeroCells (Value.agg (puC ⟨pl0,cg0,false⟩)).cells (n - m)).toList ++ cur.toList.drop (m * 51 + (Builtin.zeroCells (Value.agg (puC ⟨pl0,cg0,false⟩)).cells (n - m)).toList.length)).toArray = W2:=⟨_,rfl⟩
 have hcl : ∀ ty,(Builtin.clear_ #[99] ty #[.slice (some ⟨g,m * 51,none⟩) (n - m) (c - m)]).run Tryz.prog w.drew = .ok (.tuple #[]) W2:=fun ty => by
  rw [drun_clear_row Tryz.prog w.drew _ _ ty _ Tryz.underlying99 hzv g (m * 51) (n - m) (c - m) cur (by omega) (dzc_one (n - m)) hgd (by rw [dzc_len,hcs,← Nat.add_mul]; exact Nat.mul_le_mul_right 51 (by omega)),hW2]
 have HG2 : Hid (∃ cs,W2.heap[g]? = some (.cells cs 116 (0,0)) ∧ cs.size = c * 51 ∧ cs.toList.take (m * 51) = cur.toList.take (m * 51)):=by
  have hml : m * 51 ≤ c * 51:=Nat.mul_le_mul_right 51 (by omega)
  have hmj : m * 51 + (n - m) * 51 ≤ c * 51:=by rw [← Nat.add_mul]; exact Nat.mul_le_mul_right 51 (by omega)
  have hzs:=dzc_len (n - m)
  refine ⟨_,by rw [← hW2]; exact setRow_heap w.drew g cur _ _ _ hgd,?_,?_⟩
  ·rw [List.size_toArray,List.length_append,List.length_append,hzs,List.length_take,List.length_drop,Array.length_toList,hcs]; omega
  ·rw [List.append_assoc,List.take_append_of_le_length (by rw [List.length_take,Array.length_toList,hcs]; omega),List.take_take,Nat.min_self]
 have HS2 : Hid (Sole [g] w W2):=by unfold Hid; rw [← hW2]; exact (Sole.drew w _).trans ⟨rfl,rfl,rfl,by simp [World.setRow],fun k _ hk => setRow_other w.drew g k _ (fun e => hk (by simp [e]))⟩
 obtain ⟨A,hA⟩ : ∃ A : Addr,(if c = n then some (⟨g,0,none⟩ : Addr) else some ⟨g,n * 51,none⟩) = some A:=by
  by_cases h : c = n
  ·exact ⟨_,if_pos h⟩
  ·exact ⟨_,if_neg h⟩
 have HW : Hid (w.drew.setCells g (0 + m * 51) [] = w.drew):=rfl
 have hcm' : ¬ c = m:=by omega
 have hne : ¬ ((m : Int) = (n : Int)):=by omega
 have hmI : (m : Int) ≤ (n : Int):=by omega
 have hnc : (n : Int) ≤ (c : Int):=by omega
 have hm0 : (m : Int) ≤ (c : Int):=by omega
 have hnm : ¬ n = m:=by omega
 clear hW2 hgd hg hcs hzv hz0 hz2
 go_enter Tryz.func49,Tryz.ntmps49
 go_wp2_with fail
 go_region_law (refine step_append_room rfl (.tmp 22) (.tmp 25) 99 rfl 116 iE 51 Tryz.underlying99 hiE hz1 g 0 m c (by simp [Act.eval,Act.put]) A 0 (c - n) [] (by simp [Act.eval,Act.put]) rfl (fun t u hu => by simp at hu) (fun u hu => by simp at hu) (by omega) (fun t ht => by simp at ht) ?_; rw [HW.out])
 go_wp2_with fail
 go_ret
 obtain ⟨cs,k1,k2,k3⟩:=HG2.out
 exact ⟨by simp,cs,k1,k2,k3,HS2.out⟩
open Go.RowKit Go.Shelf Go.Maps
attribute [local go_sem] Oper.semAt_some
theorem flatPu_at {L : List Pu} (hL : ∀ c ∈ L,PuOk c) {i : Nat} (hi : i < L.length) (j : Nat) (hj : j < 51) : (L.flatMap puL)[i * 51 + j]? = (puL (L.getD i pu0))[j]?:=by
 induction L generalizing i with
 | nil => simp at hi
 | cons c L ih =>
  have hc:=puL_len (hL c (by simp))
  rw [List.flatMap_cons]
  cases i with
  | zero =>
   rw [List.getElem?_append_left (by omega)]
   simp
  | succ i =>
   rw [List.getElem?_append_right (by omega),hc,show (i + 1) * 51 + j - 51 = i * 51 + j by omega]
   exact ih (fun x hx => hL x (by simp [hx])) (by simpa using hi)
theorem back_list (xs : List Pu) (h : ∀ x ∈ xs,PuOk x) : ((List.range xs.length).map (backE xs h)).map PuI.x = xs.reverse:=by
 rw [List.map_map]
 apply List.ext_getElem?
 intro i
 rw [List.getElem?_map]
 by_cases hi : i < xs.length
 ·rw [List.getElem?_range hi,List.getElem?_reverse hi]
  show some (xs.getD (xs.length - 1 - i) pu0) = _
  rw [List.getD_eq_getElem?_getD,List.getElem?_eq_getElem (by omega)]
  rfl
 ·rw [List.getElem?_eq_none (by simp; omega),List.getElem?_eq_none (by simp; omega)]
  rfl
theorem DlAt.keep3 {w w' : World} {p b : Nat} {v : Value} {s : Dl} (h : DlAt w p b v s) (hs : w.heap.size ≤ w'.heap.size) (hp : w'.heap[p]? = w.heap[p]?) (hb : w'.heap[b]? = w.heap[b]?) (hv : ∀ q,v.ownBlock = some q → w'.heap[q]? = w.heap[q]?) : DlAt w' p b v s :=
 ⟨hp.trans h.row,h.mp.keep hb,own_keep h.pus hs (fun q hq _ => hv q hq),h.ok⟩
theorem load39 {w : World} {k p : Nat} (h : w.heap[k]? = some (.cells #[.pointer (some ⟨p,0,none⟩)] 35 (0,0))) : (Instr.loadAt 35 (.pointer (some ⟨k,0,none⟩))).run Tryz.prog w = .ok (.pointer (some ⟨p,0,none⟩)) w:=by
 have c : w.cell? ⟨k,0,none⟩ = some (.pointer (some ⟨p,0,none⟩)):=by rw [cell_of_row _ _ _ _ _ (0,0) h]; rfl
 have u:=Tryz.underlying35
 go_simp
theorem flat_take {L : List Pu} (hL : ∀ c ∈ L,PuOk c) : ∀ m,m ≤ L.length → (L.flatMap puL).take (m * 51) = (L.take m).flatMap puL:=by
 induction L with
 | nil => intro m hm; simp
 | cons c L ih =>
  intro m hm
  cases m with
  | zero => simp
  | succ m =>
   have hc:=puL_len (hL c (by simp))
   rw [List.flatMap_cons,List.take_succ_cons,List.flatMap_cons,show (m + 1) * 51 = (puL c).length + m * 51 by rw [hc]; omega,List.take_length_add_append,ih (fun x hx => hL x (by simp [hx])) m (by simpa using hm)]
theorem dflat_len {L : List Pu} (hL : ∀ c ∈ L,PuOk c) : (L.flatMap puL).length = L.length * 51:=by
 induction L with
 | nil => simp
 | cons c L ih => rw [List.flatMap_cons,List.length_append,puL_len (hL c (by simp)),ih (fun x hx => hL x (by simp [hx])),List.length_cons]; omega
theorem delPu_id (w : World) (a : Option Addr) (n c : Nat) (ha : a = none → c = 0) (hn : n ≤ c) (hc : c ≤ maxLen) : Calls Tryz.prog 49 #[.slice a n c,.int .i64 n,.int .i64 n] w fun e w' => e = .returned (.slice a n c) ∧ w' = w:=by
 unfold maxLen at hc
 have hnc : (n : Int) ≤ (c : Int):=by omega
 cases a with
 | none =>
  obtain rfl:=ha rfl
  obtain rfl : n = 0:=by omega
  go_enter Tryz.func49,Tryz.ntmps49
  go_wp2
  all_goals (go_ret; exact ⟨rfl,rfl⟩)
 | some x =>
  go_enter Tryz.func49,Tryz.ntmps49
  go_wp2
  all_goals (go_ret; exact ⟨rfl,rfl⟩)
theorem undo_row {w : World} {p b : Nat} {s : Dl} {g cap N m : Nat} (hmlt : m < N) (hN : N ≤ cap) (hcap : cap ≤ maxLen) (hNe : s.pus.length = N) (hbd : s.L.length + s.pus.length ≤ 20000) (h : DlAt w p b (.slice (some ⟨g,0,none⟩) N cap) s) : Calls Tryz.prog 23 #[.pointer (some ⟨p,0,none⟩),.int .i64 m] w fun e w' => e = .returned (.int .i64 0) ∧ ∃ v',DlAt w' p b v' (undoS s m) ∧ KeepQ p b (.slice (some ⟨g,0,none⟩) N cap) w w' v':=by
 unfold maxLen at hcap
 have hrow0:=heap_alloc_new w (.cells #[.pointer (some ⟨p,0,none⟩)] 35)
 have hb1 : Below w.heap.size w (w.alloc (.cells #[.pointer (some ⟨p,0,none⟩)] 35)):=(Below.refl _ w).alloc (Nat.le_refl _) _
 have hc1 : (w.alloc (.cells #[.pointer (some ⟨p,0,none⟩)] 35)).cell? ⟨w.heap.size,0,none⟩ = some (.pointer (some ⟨p,0,none⟩)):=by rw [cell_of_row _ _ _ _ _ (0,0) (heap_alloc_new w _)]; rfl
 have hD1:=h.below hb1
 have hmk:=dmark_any hD1
 have c2:=hD1.c2
 obtain ⟨w1,hw1⟩ : ∃ w1,w.alloc (.cells #[.pointer (some ⟨p,0,none⟩)] 35) = w1:=⟨_,rfl⟩
 rw [hw1] at hb1 hc1 hmk hD1 c2 hrow0
 have hpw:=h.lt
 have hbw:=h.mp.lt
 have hvw : ∀ q,(.slice (some ⟨g,0,none⟩) N cap : Value).ownBlock = some q → q < w.heap.size:=fun q hq => (World.ownsRow.lt h.pus q hq).2
 have hs1:=hb1.size
 have hbp:=h.bp
 have hok:=h.ok
 have hgb : g ≠ b:=fun e => by
  obtain ⟨cs,e1⟩:=own_row hD1.pus (q:=g) rfl
  obtain ⟨x,cl,e2⟩:=hD1.mp.isMap
  rw [e] at e1; rw [e1] at e2; cases e2
 have hcm : ¬ cap = m:=by omega
 have hm0 : ¬ ((m : Int) < 0):=by omega
 have hm : ¬ ((N : Int) < (m : Int)):=by omega
 have hm2 : (m : Int) ≤ (N : Int):=by omega
 have hmc : (m : Int) ≤ (cap : Int):=by omega
 rw [hNe] at hmk
 have HNE : Hid (s.pus.length = N):=hNe
 clear hNe h
 have hs3 : (w1.alloc (.cells #[.slice (some ⟨g,m * 51,none⟩) (N - m) (cap - m)] 99)).heap.size = w1.heap.size + 1:=by simp
 have hb3 : Below w1.heap.size w1 (w1.alloc (.cells #[.slice (some ⟨g,m * 51,none⟩) (N - m) (cap - m)] 99)):=(Below.refl _ w1).alloc (Nat.le_refl _) _
 have hD3:=hD1.below hb3
 have hc3 : (w1.alloc (.cells #[.slice (some ⟨g,m * 51,none⟩) (N - m) (cap - m)] 99)).cell? ⟨w1.heap.size,0,none⟩ = some (.slice (some ⟨g,m * 51,none⟩) (N - m) (cap - m)):=by rw [cell_of_row _ _ _ _ _ (0,0) (heap_alloc_new w1 _)]; rfl
 have hrow3:=(hb3.block w.heap.size (by have:=(Array.getElem?_eq_some_iff.1 hrow0).1; omega)).trans hrow0
 have hxl : (s.pus.drop m).length = N - m:=by rw [List.length_drop,HNE.out]
 have hxok : ∀ x ∈ s.pus.drop m,PuOk x:=fun x hx => hok.pus x (List.mem_of_mem_drop hx)
 have hseq:=back_stops 2 (by decide) w1.heap.size b (w1.heap.size + 1) (some ⟨g,m * 51,none⟩) (cap - m) (s.pus.drop m) hxok (w1.alloc (.cells #[.slice (some ⟨g,m * 51,none⟩) (N - m) (cap - m)] 99)) (by omega) (by omega) (by rw [hs3]; exact Nat.le_refl _) (by rw [hxl]; exact hc3) (by unfold maxLen; omega) (by rw [hxl]; omega) (by rw [hxl]; have:=HNE.out; omega)
  (fun hpos => ⟨g,m * 51,rfl,by have:=hvw g rfl; omega,hgb,fun i hi j u hu => by
   obtain ⟨_,hq | ⟨g',c',cur,e,_,hg,h5,h6,h7,h8⟩⟩:=hD3.pus
   ·cases hq.1
   ·simp only [Value.slice.injEq,Option.some.injEq,Addr.mk.injEq,and_true] at e
    obtain ⟨rfl,_,rfl⟩:=e
    rw [hxl] at hi
    have hgd : (s.pus.drop m).getD i pu0 = s.pus.getD (m + i) pu0:=by rw [List.getD_eq_getElem?_getD,List.getElem?_drop,← List.getD_eq_getElem?_getD]
    rw [hgd] at hu
    have hil : m + i < s.pus.length:=by rw [HNE.out]; omega
    have hj : j < 51:=by have:=(List.getElem?_eq_some_iff.1 hu).1; rwa [puL_len (getD_ok hok.pus _)] at this
    have e9:=flatPu_at hok.pus hil j hj
    rw [← h8,List.getElem?_take_of_lt (by have : (m + i + 1) * 51 ≤ s.pus.length * 51:=Nat.mul_le_mul_right 51 hil; omega)] at e9
    rw [cell_of_row _ _ _ _ _ (0,0) hg,← Array.getElem?_toList,← hu,← e9]
    congr 1; rw [Nat.add_mul]⟩)
 have eg : ∀ args w,(callFunc 72 args).run Tryz.prog w = .ok (.enter 72 args) w:=enters_of Tryz.func72 (by kernel_rfl) rfl
 refine (callsIn_wide (n:=3)).1 ?_
 refine callsIn_of_wp_marks Tryz.func23 rfl trivial ?_ rfl
 refine wpIn_wide.2 ?_
 simp only [Tryz.ntmps23,List.size_toArray,List.length_cons,List.length_nil,Nat.reduceAdd,Nat.reduceSub,Array.replicate_succ,Array.replicate_zero,List.push_toArray,List.append_toArray,List.nil_append,List.cons_append]
 go_wp2_with fail
 refine hmk.mono ?_
 rintro e w2 ⟨rfl,rfl⟩
 go_wp2_with fail
 refine (backward_any _ _ _ _).mono ?_
 rintro e w3' ⟨rfl,rfl⟩
 go_wp2_with fail
 refine (wpIn_wide (n:=3)).1 ?_
 obtain ⟨w3,hw3⟩ : ∃ w3,w1.alloc (.cells #[.slice (some ⟨g,m * 51,none⟩) (N - m) (cap - m)] 99) = w3:=⟨_,rfl⟩
 rw [hw3] at hs3 hb3 hD3 hc3 hrow3 hseq ⊢
 clear hw3 hc3 hmk c2 hc1 hw1
 have hz:=zeroPu
 refine wpIn_rangeFunc_ownH rfl (by decide) (gf:=72) (lb:=#[.pointer (some ⟨w1.heap.size,0,none⟩)]) rfl trivial eg hseq KeepB.t (KeepB.b (by omega)) (Below.refl _ _) (fun _ => rfl)
  (fun pre W => DlAt W p b (.slice (some ⟨g,0,none⟩) N cap) ⟨s.most,undoL s.L (pre.map PuI.x),s.pus⟩ ∧ Sole [b] w3 W)
  (fun _ _ _ => False)
  (fun pre A B row ⟨k1,k2⟩ hg hr => by
   have hlo : ∀ k,k < w3.heap.size → B.heap[k]? = A.heap[k]?:=fun k hk => hg.block k (Nat.lt_of_lt_of_le hk k2.size) (fun e => by have:=(hr k e.symm).1; omega)
   exact ⟨k1.keep3 hg.size (hlo p (by omega)) (hlo b (by omega)) (fun q hq => hlo q (by have:=hvw q hq; omega)),k2.after (S':=row.toList) ⟨hg.os,hg.tape,hg.output,hg.size,fun k hk hn => hg.block k hk (fun e => hn (by rw [Option.mem_toList]; exact e.symm))⟩ (fun k hk => by rw [Option.mem_toList] at hk; exact .inr (hr k hk).1)⟩)
  (fun _ _ _ _ _ hs _ _ => hs)
  ⟨hD3,Sole.refl _ _⟩
  (fun x a' W => ∃ Bx,PuAt W Bx x.x ∧ a' = { tmps:=#[.pointer (some ⟨p,0,none⟩),.int .i64 m,.pointer (some ⟨w.heap.size,0,none⟩),undef,.int .i64 0,undef,.pointer (some ⟨Bx,0,none⟩),.int .i64 m,.bool false,.bool false,.int .i64 m,.pointer (some ⟨p,0,none⟩),.int .i64 N,.bool false,.bool false,.pointer (some ⟨p,0,none⟩),.pointer (some ⟨p,0,none⟩),.pointer (some ⟨p,2,none⟩),.slice (some ⟨g,0,none⟩) N cap,.int .i64 m,.slice (some ⟨g,m * 51,none⟩) (N - m) (cap - m),.func (.func 72) #[] #[.pointer (some ⟨w1.heap.size,0,none⟩)],.int .i64 (x.i : Int),.agg (puC x.x),undef,undef,undef,undef,undef,undef,undef,undef,undef,undef,undef,undef,undef,undef,undef,undef,undef],defers:=[] })
  (fun x a' => Own.from (fun u A B row hs hg hr => by
   obtain ⟨Bx,hs,e⟩:=hs
   exact ⟨Bx,⟨(hg.block Bx hs.lt (fun e' => by obtain ⟨o,ho,hc⟩:=hr Bx e'.symm; rw [hs.row] at ho; cases ho; cases hc)).trans hs.row⟩,e⟩) _) ?assign ?body ?done ?stop
 case assign =>
  rintro l pre x W K ⟨k1,k2⟩ hK
  have hn:=heap_alloc_new W (.cells (puC pu0) 116)
  have hb:=alloc_row (A:=W) (.cells (puC pu0) 116) (puC x.x)
  have hx : PuAt ((W.alloc (.cells (puC pu0) 116)).setRow W.heap.size (puC x.x)) W.heap.size x.x:=⟨setRow_heap _ _ _ _ _ _ hn⟩
  obtain ⟨W1,hW1⟩ : ∃ W1,(W.alloc (.cells (puC pu0) 116)).setRow W.heap.size (puC x.x) = W1:=⟨_,rfl⟩
  rw [hW1] at hb hx
  have hg : W.grownBy W1 none:=⟨hb.os,hb.tape,hb.output,hb.size,fun k hk _ => hb.block k hk⟩
  have hko : KeepsOthers W W1:=KeepsOthers.of_grownBy hg (fun j o ej => by cases ej)
  gi_wp2_with (refine wpListIn_storeS rfl 116 _ _ rfl W.heap.size (puC x.x) rfl rfl 116 (puC pu0) hn (by rw [puC_size x.ok]; exact size_pu) (by rw [puC_size x.ok,puC_size pu0_ok]) (one_pu _) ?_; rw [hW1])
  have hks:=k2.size
  exact hK _ _ (hko.from _) ⟨hb.size,fun k hk _ => hb.block k (by omega)⟩ ⟨k1.below hb,k2.trans (Sole.of_below hb _)⟩ ⟨W.heap.size,hx,rfl⟩
 case body =>
  rintro l pre x a' W hl0 hrec ⟨k1,k2⟩ ⟨Bx,hx,rfl⟩ hlen
  have hks:=k2.size
  have hrowW:=(k2.block w.heap.size (by omega) (by simp; omega)).trans hrow3
  have h39 : Hid _:=load39 hrowW
  have h76 : Hid ((Instr.loadAt 116 (.pointer (some ⟨Bx,0,none⟩))).run Tryz.prog W = .ok (.agg (puC x.x)) W):=by
   have hl:=run_loadVar_row (P:=Tryz.prog) W Bx _ 116 (puC x.x) _ _ hx.row Tryz.underlying116 rfl (by rw [puC_size x.ok]; exact size_pu)
   unfold Hid
   simp only [Instr.loadAt,Instr.sureAddr,Sem.run_bind,Sem.run_pure,Result.andThen_ok,hl]
  have hpl:=undoL_len (pre.map PuI.x) s.L
  rw [List.length_map] at hpl
  rw [List.length_drop] at hlen
  have cu:=undo1_any k1 x.x x.ok (by show (undoL s.L (pre.map PuI.x)).length ≤ 20000; omega)
  gi_wp2_with (first
   | (refine wpListIn_loadS rfl 35 _ rfl _ rfl _ h39.out ?_)
   | (refine wpListIn_loadS rfl 116 _ rfl _ rfl _ h76.out ?_))
  refine ⟨trivial,?_⟩
  refine (CallsIn.inRound l (callsIn_wide.2 cu)).mono ?_
  rintro e W2 ⟨⟨r,rfl⟩,k3,k4⟩
  gi_wp2
  refine ⟨⟨k4.size,fun k o hk ho _ => (k4.block k (Array.getElem?_eq_some_iff.1 ho).1 (by simp; omega)).trans ho⟩,⟨k4.size,fun k hk hne => k4.block k (by omega) (by simpa using hne)⟩,?_,k2.trans k4⟩
  rw [List.map_append,List.map_cons,List.map_nil,undoL_snoc]
  exact k3
 case done =>
  rintro D ys W hD rfl ⟨k1,k2⟩ hK
  rw [back_list] at k1
  have hks:=k2.size
  have hrowW:=(k2.block w.heap.size (by omega) (by simp; omega)).trans hrow3
  obtain ⟨LL,hLL⟩ : ∃ LL,undoL s.L (s.pus.drop m).reverse = LL:=⟨_,rfl⟩
  rw [hLL] at k1
  have HLL : Hid (undoL s.L (s.pus.drop m).reverse = LL):=hLL
  clear hLL
  have hrowP:=k1.row
  have hlp:=k1.lt
  obtain ⟨gcur,hgW,hgs⟩ : ∃ cur,W.heap[g]? = some (.cells cur 116 (0,0)) ∧ cur.size = cap * 51 ∧ cur.toList.take (N * 51) = s.pus.flatMap puL:=by
   obtain ⟨_,hq | ⟨g',c',cur,e,_,hg,h5,h6,h7,h8⟩⟩:=k1.pus
   ·cases hq.1
   ·simp only [Value.slice.injEq,Option.some.injEq,Addr.mk.injEq,and_true] at e
    obtain ⟨rfl,_,rfl⟩:=e
    refine ⟨cur,hg,h7,?_⟩
    have h8 : cur.toList.take (s.pus.length * 51) = s.pus.flatMap puL:=h8
    rw [HNE.out] at h8; exact h8
  have hgp : g ≠ p:=ne_of_type hgW hrowP (by decide)
  have hgn : g ≠ w.heap.size:=ne_of_type hgW hrowW (by decide)
  have hDg : D ≠ g:=fun e => by rw [e,hgW] at hK; cases hK
  have hDp : D ≠ p:=fun e => by rw [e,hrowP] at hK; cases hK
  have hDb : D ≠ b:=fun e => by
   obtain ⟨x,cl,hm⟩:=k1.mp.isMap
   rw [e,hm] at hK; cases hK
  have q1 : ∀ X,Sole [g] W X → X.heap[p]? = some (.cells (dlC s.most b (.slice (some ⟨g,0,none⟩) N cap)) 101 (0,0)):=fun X hX => (hX.block p hlp (by simp; omega)).trans hrowP
  have q2 : ∀ X,Sole [g] W X → X.heap[w.heap.size]? = some (.cells #[.pointer (some ⟨p,0,none⟩)] 35 (0,0)):=fun X hX => (hX.block w.heap.size (by omega) (by simp; omega)).trans hrowW
  have hgd : W.drew.heap[g]? = some (.cells gcur 116 (0,0)):=hgW
  have cd:=delPu_any W.drew g N cap m gcur hgd hgs.1 hN (by unfold maxLen; omega) hmlt
  have HK1 : Hid (DlAt W p b (.slice (some ⟨g,0,none⟩) N cap) ⟨s.most,LL,s.pus⟩):=k1
  have HK2 : Hid (Sole [b] w3 W):=k2
  have HKD : Hid (W.heap[D]? = some (.deferred (some []))):=hK
  have HGS : Hid _:=hgs
  clear k1 k2 hK hgs hseq hrow3 hrow0
  go_wp2_with fail
  refine wp_region_noPanic ?_
  refine wp_region_sink 14 (S:=fun X => Sole [g] W X) (by kernel_rfl) (by kernel_rfl) (Sole.drew _ _) (fun hHeld => ?_)
  refine wpAnyH_take (i:=0) (v:=.pointer (some ⟨p,0,none⟩)) rfl (by kernel_rfl) (by kernel_rfl) (by kernel_rfl) (fun _ _ _ h => h) (yields_load (by rfl) _ _ rfl _ rfl _ (fun W h => load39 (q2 W h))) (by assumption) ?_
  try simp only [nz]
  refine wpAnyH_take (i:=1) (v:=.pointer (some ⟨p,0,none⟩)) rfl (by kernel_rfl) (by kernel_rfl) (by kernel_rfl) (fun _ _ _ h => h) (yields_load (by rfl) _ _ rfl _ rfl _ (fun W h => load39 (q2 W h))) (by assumption) ?_
  try simp only [nz]
  refine tk 2 (.pointer (some ⟨p,0,none⟩)) rfl ?_
  try simp only [nz]
  refine tk 3 (.pointer (some ⟨p,2,none⟩)) rfl ?_
  try simp only [nz]
  refine wpAnyH_take (i:=4) (v:=.slice (some ⟨g,0,none⟩) N cap) rfl (by kernel_rfl) (by kernel_rfl) (by kernel_rfl) (fun _ _ _ h => h) (yields_load (by rfl) _ _ rfl _ rfl _ (fun W h => load2_row (q1 W h))) (by assumption) ?_
  try simp only [nz]
  refine tk 5 (.int .i64 m) rfl ?_
  try simp only [nz]
  refine wpAnyH_take (i:=6) (v:=.pointer (some ⟨p,0,none⟩)) rfl (by kernel_rfl) (by kernel_rfl) (by kernel_rfl) (fun _ _ _ h => h) (yields_load (by rfl) _ _ rfl _ rfl _ (fun W h => load39 (q2 W h))) (by assumption) ?_
  try simp only [nz]
  refine tk 7 (.pointer (some ⟨p,0,none⟩)) rfl ?_
  try simp only [nz]
  refine tk 8 (.pointer (some ⟨p,2,none⟩)) rfl ?_
  try simp only [nz]
  refine wpAnyH_take (i:=9) (v:=.slice (some ⟨g,0,none⟩) N cap) rfl (by kernel_rfl) (by kernel_rfl) (by kernel_rfl) (fun _ _ _ h => h) (yields_load (by rfl) _ _ rfl _ rfl _ (fun W h => load2_row (q1 W h))) (by assumption) ?_
  try simp only [nz]
  refine tk 10 (.int .i64 N) rfl ?_
  try simp only [nz]
  refine rd 11 rfl (fun K hK => ?_)
  go_simp
  go_wp2_with (go_at_call 49; refine cd.mono ?_; rintro e X1 ⟨rfl,cs,j1,j2,j3,j4⟩)
  have hX1 : Sole [g] W X1:=(Sole.drew W _).trans j4
  refine hK.out _ _ hX1 (fun hHeld2 => ?_)
  clear hK K
  try simp only [nz]
  refine tk 12 (.pointer (some ⟨p,0,none⟩)) rfl ?_
  try simp only [nz]
  refine tk 13 (.pointer (some ⟨p,2,none⟩)) rfl ?_
  try simp only [nz]
  have hG1:=q1 X1 hX1
  have c12 : X1.cell? ⟨p,2,none⟩ = some (.slice (some ⟨g,0,none⟩) N cap):=by rw [cell_of_row _ _ _ _ _ (0,0) hG1]; rfl
  have f12:=frozen_of_row X1 p 2 _ _ hG1
  have hG2:=heap_setCell_same X1 p 2 _ _ (.slice (some ⟨g,0,none⟩) m cap) hG1
  obtain ⟨X2,hX2⟩ : ∃ X2,X1.setCell ⟨p,2,none⟩ (.slice (some ⟨g,0,none⟩) m cap) = X2:=⟨_,rfl⟩
  have hS12 : Sole [p] X1 X2:=by rw [← hX2]; exact Sole.setCell _ _ (by simp)
  rw [hX2] at hG2
  have hG2' : X2.heap[p]? = some (.cells (dlC s.most b (.slice (some ⟨g,0,none⟩) m cap)) 101 (0,0)):=hG2
  have HG2 : Hid _:=hG2'
  have hX1s:=hX1.size
  have HKD2 : Hid (X2.heap[D]? = some (.deferred (some []))):=by
   have hl:=(Array.getElem?_eq_some_iff.1 HKD.out).1
   exact (hS12.block D (by omega) (by simpa using hDp)).trans ((hX1.block D hl (by simpa using hDg)).trans HKD.out)
  have HX1 : Hid (Sole [g] W X1):=hX1
  have HX2 : Hid (Sole [p] X1 X2):=hS12
  have HJ : Hid (X1.heap[g]? = some (.cells cs 116 (0,0)) ∧ cs.size = cap * 51 ∧ cs.toList.take (m * 51) = gcur.toList.take (m * 51)):=⟨j1,j2,j3⟩
  refine wpAnyH_done (by kernel_rfl) ?_ _
  refine Behind.run (by rfl) ?_
  go_simp
  go_wp2
  refine NoPanic.normal ?_
  clear q1 q2 hG1 hG2 hG2' c12 f12 hX1 hS12 j1 j2 j3 j4 hHeld hHeld2 cd hgd hgW
  go_wp2
  refine ⟨by simp,.inl ⟨_,_,rfl,run_takeDeferred HKD2.out,?_⟩⟩
  refine ⟨_,results_tmp rfl _ _ _,rfl,.slice (some ⟨g,0,none⟩) m cap,?_,?_⟩
  ·have hX1b:=HX1.out
   have hX2b:=HX2.out
   have hWb:=HK1.out.mp.lt
   have hWg:=(Array.getElem?_eq_some_iff.1 HJ.out.1).1
   have k1:=HK1.out
   have eb : (X2.putObj D (.deferred none)).heap[b]? = W.heap[b]?:=(World.putObj_heap_other (Ne.symm hDb)).trans ((hX2b.block b (by omega) (by simpa using hbp)).trans (hX1b.block b hWb (by simpa using Ne.symm hgb)))
   have eg' : (X2.putObj D (.deferred none)).heap[g]? = some (.cells cs 116 (0,0)):=(World.putObj_heap_other (Ne.symm hDg)).trans ((hX2b.block g hWg (by simpa using hgp)).trans HJ.out.1)
   have hpk : ∀ x ∈ s.pus.take m,PuOk x:=fun x hx => hok.pus x (List.mem_of_mem_take hx)
   have hml : m ≤ s.pus.length:=by rw [HNE.out]; omega
   have htl : (s.pus.take m).length = m:=by rw [List.length_take]; omega
   unfold undoS
   rw [HLL.out]
   refine ⟨(World.putObj_heap_other (Ne.symm hDp)).trans HG2.out,k1.mp.keep eb,?_,⟨k1.ok.m0,k1.ok.m1,k1.ok.L,hpk⟩⟩
   dsimp only
   rw [htl]
   refine ⟨by rw [dflat_len hpk,htl],.inr ⟨g,cap,cs,rfl,Nat.zero_le _,eg',by omega,by unfold maxLen; omega,HJ.out.2.1,?_⟩⟩
   rw [HJ.out.2.2,← flat_take hok.pus m hml,← HGS.out.2,List.take_take,Nat.min_eq_left (Nat.mul_le_mul_right 51 (by omega))]
  ·have a1:=HX1.out
   have a2:=HX2.out
   have a3:=HK2.out
   have s3:=a3.size
   have s1:=a1.size
   exact ⟨a2.os.trans (a1.os.trans (a3.os.trans (hb3.os.trans hb1.os))),a2.tape.trans (a1.tape.trans (a3.tape.trans (hb3.tape.trans hb1.tape))),a2.output.trans (a1.output.trans (a3.output.trans (hb3.output.trans hb1.output))),by
    have:=a2.size
    have e : (X2.putObj D (.deferred none)).heap.size = X2.heap.size:=by simp
    rw [e]; omega,fun k hk h1 h2 h3 => by
    have hkg : k ≠ g:=fun e => h3 (by rw [e]; rfl)
    exact (World.putObj_heap_other (by omega)).trans ((a2.block k (by omega) (by simpa using h1)).trans ((a1.block k (by omega) (by simpa using hkg)).trans ((a3.block k (by omega) (by simpa using h2)).trans ((hb3.block k (by omega)).trans (hb1.block k hk))))),fun k hk => .inl hk⟩
 case stop =>
  rintro D c pre W _ _ h _
  exact h.elim
open Go.RowKit Go.Shelf Go.Maps
attribute [local go_sem] Oper.semAt_some
theorem undoS_all (s : Dl) : undoS s s.pus.length = s:=by
 unfold undoS
 rw [List.drop_length,List.take_length]
 rfl
theorem undo_b2 {w : World} {p b : Nat} {s : Dl} {g cap N : Nat} (hne : ¬ cap = N) (hN : N ≤ cap) (hcap : cap ≤ maxLen) (hNe : s.pus.length = N) (h : DlAt w p b (.slice (some ⟨g,0,none⟩) N cap) s) : Calls Tryz.prog 23 #[.pointer (some ⟨p,0,none⟩),.int .i64 N] w fun e w' => e = .returned (.int .i64 0) ∧ DlAt w' p b (.slice (some ⟨g,0,none⟩) N cap) s ∧ KeepQ p b (.slice (some ⟨g,0,none⟩) N cap) w w' (.slice (some ⟨g,0,none⟩) N cap):=by
 have hrow0:=heap_alloc_new w (.cells #[.pointer (some ⟨p,0,none⟩)] 35)
 have hb1 : Below w.heap.size w (w.alloc (.cells #[.pointer (some ⟨p,0,none⟩)] 35)):=(Below.refl _ w).alloc (Nat.le_refl _) _
 have hc1 : (w.alloc (.cells #[.pointer (some ⟨p,0,none⟩)] 35)).cell? ⟨w.heap.size,0,none⟩ = some (.pointer (some ⟨p,0,none⟩)):=by rw [cell_of_row _ _ _ _ _ (0,0) (heap_alloc_new w _)]; rfl
 have hD1:=h.below hb1
 have hmk:=dmark_any hD1
 have c2:=hD1.c2
 obtain ⟨w1,hw1⟩ : ∃ w1,w.alloc (.cells #[.pointer (some ⟨p,0,none⟩)] 35) = w1:=⟨_,rfl⟩
 rw [hw1] at hb1 hc1 hmk hD1 c2 hrow0
 have hpw:=h.lt
 have hbw:=h.mp.lt
 have hvw : ∀ q,(.slice (some ⟨g,0,none⟩) N cap : Value).ownBlock = some q → q < w.heap.size:=fun q hq => (World.ownsRow.lt h.pus q hq).2
 have hs1:=hb1.size
 have hbp:=h.bp
 have hlw1:=(Array.getElem?_eq_some_iff.1 hrow0).1
 have hdl:=fun W => delPu_id W (some ⟨g,0,none⟩) N cap (fun e => by cases e) hN hcap
 rw [hNe] at hmk
 clear hNe h
 have hs3 : (w1.alloc (.cells #[.slice (some ⟨g,N * 51,none⟩) 0 (cap - N)] 99)).heap.size = w1.heap.size + 1:=by simp
 have hb3 : Below w1.heap.size w1 (w1.alloc (.cells #[.slice (some ⟨g,N * 51,none⟩) 0 (cap - N)] 99)):=(Below.refl _ w1).alloc (Nat.le_refl _) _
 have hD3:=hD1.below hb3
 have hc3 : (w1.alloc (.cells #[.slice (some ⟨g,N * 51,none⟩) 0 (cap - N)] 99)).cell? ⟨w1.heap.size,0,none⟩ = some (.slice (some ⟨g,N * 51,none⟩) 0 (cap - N)):=by rw [cell_of_row _ _ _ _ _ (0,0) (heap_alloc_new w1 _)]; rfl
 have hrow3:=(hb3.block w.heap.size hlw1).trans hrow0
 have hseq:=back_stops 2 (by decide) w1.heap.size b (w1.heap.size + 1) (some ⟨g,N * 51,none⟩) (cap - N) [] (fun x hx => by cases hx) (w1.alloc (.cells #[.slice (some ⟨g,N * 51,none⟩) 0 (cap - N)] 99)) (by omega) (by omega) (by rw [hs3]; exact Nat.le_refl _) hc3 (by unfold maxLen at *; omega) (Nat.zero_le _) (Nat.zero_le _) (fun h => absurd h (by decide))
 have eg : ∀ args w,(callFunc 72 args).run Tryz.prog w = .ok (.enter 72 args) w:=enters_of Tryz.func72 (by kernel_rfl) rfl
 refine (callsIn_wide (n:=3)).1 ?_
 refine callsIn_of_wp_marks Tryz.func23 rfl trivial ?_ rfl
 refine wpIn_wide.2 ?_
 simp only [Tryz.ntmps23,List.size_toArray,List.length_cons,List.length_nil,Nat.reduceAdd,Nat.reduceSub,Array.replicate_succ,Array.replicate_zero,List.push_toArray,List.append_toArray,List.nil_append,List.cons_append]
 unfold maxLen at hcap
 have hm0 : ¬ ((N : Int) < 0):=by omega
 have hmc : (N : Int) ≤ (cap : Int):=by omega
 go_wp2_with fail
 refine hmk.mono ?_
 rintro e w2 ⟨rfl,rfl⟩
 go_wp2_with fail
 refine (backward_any _ _ _ _).mono ?_
 rintro e w3' ⟨rfl,rfl⟩
 go_wp2_with fail
 refine (wpIn_wide (n:=3)).1 ?_
 obtain ⟨w3,hw3⟩ : ∃ w3,w1.alloc (.cells #[.slice (some ⟨g,N * 51,none⟩) 0 (cap - N)] 99) = w3:=⟨_,rfl⟩
 rw [hw3] at hs3 hb3 hD3 hc3 hrow3 hseq ⊢
 clear hw3 hc3 hmk c2 hc1 hw1
 have hz:=zeroPu
 refine wpIn_rangeFunc_ownH rfl (by decide) (gf:=72) (lb:=#[.pointer (some ⟨w1.heap.size,0,none⟩)]) rfl trivial eg hseq KeepB.t (KeepB.b (by omega)) (Below.refl _ _) (fun _ => rfl)
  (fun pre W => DlAt W p b (.slice (some ⟨g,0,none⟩) N cap) s ∧ Sole [b] w3 W ∧ pre.length = 0)
  (fun _ _ _ => False)
  (fun pre A B row ⟨k1,k2,k0⟩ hg hr => by
   have hlo : ∀ k,k < w3.heap.size → B.heap[k]? = A.heap[k]?:=fun k hk => hg.block k (Nat.lt_of_lt_of_le hk k2.size) (fun e => by have:=(hr k e.symm).1; omega)
   exact ⟨k1.keep3 hg.size (hlo p (by omega)) (hlo b (by omega)) (fun q hq => hlo q (by have:=hvw q hq; omega)),k2.after (S':=row.toList) ⟨hg.os,hg.tape,hg.output,hg.size,fun k hk hn => hg.block k hk (fun e => hn (by rw [Option.mem_toList]; exact e.symm))⟩ (fun k hk => by rw [Option.mem_toList] at hk; exact .inr (hr k hk).1),k0⟩)
  (fun _ _ _ _ _ hs _ _ => hs)
  ⟨hD3,Sole.refl _ _,rfl⟩
  (fun x a' W => True)
  (fun x a' _ _ _ _ _ _ _ => trivial) ?assign ?body ?done ?stop
 case assign =>
  rintro l pre x W K ⟨k1,k2,k0⟩ hK
  have hn:=heap_alloc_new W (.cells (puC pu0) 116)
  have hb:=alloc_row (A:=W) (.cells (puC pu0) 116) (puC x.x)
  obtain ⟨W1,hW1⟩ : ∃ W1,(W.alloc (.cells (puC pu0) 116)).setRow W.heap.size (puC x.x) = W1:=⟨_,rfl⟩
  rw [hW1] at hb
  have hg : W.grownBy W1 none:=⟨hb.os,hb.tape,hb.output,hb.size,fun k hk _ => hb.block k hk⟩
  have hko : KeepsOthers W W1:=KeepsOthers.of_grownBy hg (fun j o ej => by cases ej)
  gi_wp2_with (refine wpListIn_storeS rfl 116 _ _ rfl W.heap.size (puC x.x) rfl rfl 116 (puC pu0) hn (by rw [puC_size x.ok]; exact size_pu) (by rw [puC_size x.ok,puC_size pu0_ok]) (one_pu _) ?_; rw [hW1])
  have hks:=k2.size
  exact hK _ _ (hko.from _) ⟨hb.size,fun k hk _ => hb.block k (by omega)⟩ ⟨k1.below hb,k2.trans (Sole.of_below hb _),k0⟩ trivial
 case body =>
  rintro l pre x a' W hl0 hrec k1 k2 hlen
  exact absurd hlen (by simp)
 case done =>
  rintro D ys W hD hys ⟨k1,k2,_⟩ hK
  have hks:=k2.size
  have hrowW:=(k2.block w.heap.size (by omega) (by simp; omega)).trans hrow3
  have hrowP:=k1.row
  have hlp:=k1.lt
  have hDp : D ≠ p:=fun e => by rw [e,hrowP] at hK; cases hK
  have hDb : D ≠ b:=fun e => by
   obtain ⟨x,cl,hm⟩:=k1.mp.isMap
   rw [e,hm] at hK; cases hK
  have hDv : ∀ q,(.slice (some ⟨g,0,none⟩) N cap : Value).ownBlock = some q → q ≠ D:=fun q hq e => by
   obtain ⟨cs,e1⟩:=own_row k1.pus hq
   rw [e,hK] at e1; cases e1
  have q1 : ∀ X,Below W.heap.size W X → X.heap[p]? = some (.cells (dlC s.most b (.slice (some ⟨g,0,none⟩) N cap)) 101 (0,0)):=fun X hX => (hX.block p hlp).trans hrowP
  have q2 : ∀ X,Below W.heap.size W X → X.heap[w.heap.size]? = some (.cells #[.pointer (some ⟨p,0,none⟩)] 35 (0,0)):=fun X hX => (hX.block w.heap.size (by omega)).trans hrowW
  have hG1 : W.drew.heap[p]? = some (.cells (dlC s.most b (.slice (some ⟨g,0,none⟩) N cap)) 101 (0,0)):=hrowP
  have c12 : W.drew.cell? ⟨p,2,none⟩ = some (.slice (some ⟨g,0,none⟩) N cap):=by rw [cell_of_row _ _ _ _ _ (0,0) hG1]; rfl
  have f12:=frozen_of_row W.drew p 2 _ _ hG1
  have hG2:=heap_setCell_same W.drew p 2 _ _ (.slice (some ⟨g,0,none⟩) N cap) hG1
  obtain ⟨X2,hX2⟩ : ∃ X2,W.drew.setCell ⟨p,2,none⟩ (.slice (some ⟨g,0,none⟩) N cap) = X2:=⟨_,rfl⟩
  have hS12 : Sole [p] W X2:=by rw [← hX2]; exact (Sole.drew W _).trans (Sole.setCell _ _ (by simp))
  rw [hX2] at hG2
  have hG2' : X2.heap[p]? = some (.cells (dlC s.most b (.slice (some ⟨g,0,none⟩) N cap)) 101 (0,0)):=hG2
  have HG2 : Hid _:=hG2'
  have HKD2 : Hid (X2.heap[D]? = some (.deferred (some []))):=(hS12.block D (Array.getElem?_eq_some_iff.1 hK).1 (by simpa using hDp)).trans hK
  have HX2 : Hid (Sole [p] W X2):=hS12
  have HK1 : Hid (DlAt W p b (.slice (some ⟨g,0,none⟩) N cap) s):=k1
  have HK2 : Hid (Sole [b] w3 W):=k2
  have cd:=hdl W.drew
  clear hG2 hG2' hS12 k1 k2 hK hdl hseq hrow3 hrow0
  go_wp2_with fail
  refine wp_region_noPanic ?_
  refine wp_region_sink 14 (S:=fun X => Below W.heap.size W X) (by kernel_rfl) (by kernel_rfl) (Below.refl _ _).drew (fun hHeld => ?_)
  refine wpAnyH_take (i:=0) (v:=.pointer (some ⟨p,0,none⟩)) rfl (by kernel_rfl) (by kernel_rfl) (by kernel_rfl) (fun _ _ _ h => h) (yields_load (by rfl) _ _ rfl _ rfl _ (fun W h => load39 (q2 W h))) (by assumption) ?_
  try simp only [nz]
  refine wpAnyH_take (i:=1) (v:=.pointer (some ⟨p,0,none⟩)) rfl (by kernel_rfl) (by kernel_rfl) (by kernel_rfl) (fun _ _ _ h => h) (yields_load (by rfl) _ _ rfl _ rfl _ (fun W h => load39 (q2 W h))) (by assumption) ?_
  try simp only [nz]
  refine tk 2 (.pointer (some ⟨p,0,none⟩)) rfl ?_
  try simp only [nz]
  refine tk 3 (.pointer (some ⟨p,2,none⟩)) rfl ?_
  try simp only [nz]
  refine wpAnyH_take (i:=4) (v:=.slice (some ⟨g,0,none⟩) N cap) rfl (by kernel_rfl) (by kernel_rfl) (by kernel_rfl) (fun _ _ _ h => h) (yields_load (by rfl) _ _ rfl _ rfl _ (fun W h => load2_row (q1 W h))) (by assumption) ?_
  try simp only [nz]
  refine tk 5 (.int .i64 N) rfl ?_
  try simp only [nz]
  refine wpAnyH_take (i:=6) (v:=.pointer (some ⟨p,0,none⟩)) rfl (by kernel_rfl) (by kernel_rfl) (by kernel_rfl) (fun _ _ _ h => h) (yields_load (by rfl) _ _ rfl _ rfl _ (fun W h => load39 (q2 W h))) (by assumption) ?_
  try simp only [nz]
  refine tk 7 (.pointer (some ⟨p,0,none⟩)) rfl ?_
  try simp only [nz]
  refine tk 8 (.pointer (some ⟨p,2,none⟩)) rfl ?_
  try simp only [nz]
  refine wpAnyH_take (i:=9) (v:=.slice (some ⟨g,0,none⟩) N cap) rfl (by kernel_rfl) (by kernel_rfl) (by kernel_rfl) (fun _ _ _ h => h) (yields_load (by rfl) _ _ rfl _ rfl _ (fun W h => load2_row (q1 W h))) (by assumption) ?_
  try simp only [nz]
  refine tk 10 (.int .i64 N) rfl ?_
  try simp only [nz]
  refine rd 11 rfl (fun K hK => ?_)
  go_simp
  go_wp2_with (go_at_call 49; refine cd.mono ?_; rintro e X1 ⟨rfl,rfl⟩)
  refine hK.out _ _ hHeld (fun hHeld2 => ?_)
  clear hK K
  try simp only [nz]
  refine tk 12 (.pointer (some ⟨p,0,none⟩)) rfl ?_
  try simp only [nz]
  refine tk 13 (.pointer (some ⟨p,2,none⟩)) rfl ?_
  try simp only [nz]
  refine wpAnyH_done (by kernel_rfl) ?_ _
  refine Behind.run (by rfl) ?_
  go_simp
  go_wp2
  refine NoPanic.normal ?_
  clear q1 q2 hG1 c12 f12 hHeld hHeld2 cd
  go_wp2
  refine ⟨by simp,.inl ⟨_,_,rfl,run_takeDeferred HKD2.out,?_⟩⟩
  have a1:=HX2.out
  have a3:=HK2.out
  have s3:=a3.size
  have s1:=a1.size
  have e9 : (X2.putObj D (.deferred none)).heap.size = X2.heap.size:=by simp
  refine ⟨_,results_tmp rfl _ _ _,rfl,?_,?_⟩
  ·have k1:=HK1.out
   refine k1.keep3 (by rw [e9]; exact s1) ((World.putObj_heap_other (Ne.symm hDp)).trans (HG2.out.trans k1.row.symm)) ((World.putObj_heap_other (Ne.symm hDb)).trans (a1.block b k1.mp.lt (by simpa using hbp))) (fun q hq => ?_)
   obtain ⟨cs,e1⟩:=own_row k1.pus hq
   exact (World.putObj_heap_other (hDv q hq)).trans (a1.block q (Array.getElem?_eq_some_iff.1 e1).1 (by simpa using ne_of_type e1 k1.row (by decide)))
  ·exact ⟨a1.os.trans (a3.os.trans (hb3.os.trans hb1.os)),a1.tape.trans (a3.tape.trans (hb3.tape.trans hb1.tape)),a1.output.trans (a3.output.trans (hb3.output.trans hb1.output)),by rw [e9]; omega,fun k hk h1 h2 h3 => (World.putObj_heap_other (by omega)).trans ((a1.block k (by omega) (by simpa using h1)).trans ((a3.block k (by omega) (by simpa using h2)).trans ((hb3.block k (by omega)).trans (hb1.block k hk)))),fun k hk => .inl hk⟩
 case stop =>
  rintro D c pre W _ _ h _
  exact h.elim
theorem undo_b1 {w : World} {p b : Nat} {s : Dl} {g N : Nat} (hN : N ≤ maxLen) (hNe : s.pus.length = N) (h : DlAt w p b (.slice (some ⟨g,0,none⟩) N N) s) : Calls Tryz.prog 23 #[.pointer (some ⟨p,0,none⟩),.int .i64 N] w fun e w' => e = .returned (.int .i64 0) ∧ DlAt w' p b (.slice (some ⟨g,0,none⟩) N N) s ∧ KeepQ p b (.slice (some ⟨g,0,none⟩) N N) w w' (.slice (some ⟨g,0,none⟩) N N):=by
 have hrow0:=heap_alloc_new w (.cells #[.pointer (some ⟨p,0,none⟩)] 35)
 have hb1 : Below w.heap.size w (w.alloc (.cells #[.pointer (some ⟨p,0,none⟩)] 35)):=(Below.refl _ w).alloc (Nat.le_refl _) _
 have hc1 : (w.alloc (.cells #[.pointer (some ⟨p,0,none⟩)] 35)).cell? ⟨w.heap.size,0,none⟩ = some (.pointer (some ⟨p,0,none⟩)):=by rw [cell_of_row _ _ _ _ _ (0,0) (heap_alloc_new w _)]; rfl
 have hD1:=h.below hb1
 have hmk:=dmark_any hD1
 have c2:=hD1.c2
 obtain ⟨w1,hw1⟩ : ∃ w1,w.alloc (.cells #[.pointer (some ⟨p,0,none⟩)] 35) = w1:=⟨_,rfl⟩
 rw [hw1] at hb1 hc1 hmk hD1 c2 hrow0
 have hpw:=h.lt
 have hbw:=h.mp.lt
 have hvw : ∀ q,(.slice (some ⟨g,0,none⟩) N N : Value).ownBlock = some q → q < w.heap.size:=fun q hq => (World.ownsRow.lt h.pus q hq).2
 have hs1:=hb1.size
 have hbp:=h.bp
 have hlw1:=(Array.getElem?_eq_some_iff.1 hrow0).1
 have hdl:=fun W => delPu_id W (some ⟨g,0,none⟩) N N (fun e => by cases e) (Nat.le_refl _) hN
 rw [hNe] at hmk
 clear hNe h
 have hs3 : (w1.alloc (.cells #[.slice (some ⟨g,0,none⟩) 0 0] 99)).heap.size = w1.heap.size + 1:=by simp
 have hb3 : Below w1.heap.size w1 (w1.alloc (.cells #[.slice (some ⟨g,0,none⟩) 0 0] 99)):=(Below.refl _ w1).alloc (Nat.le_refl _) _
 have hD3:=hD1.below hb3
 have hc3 : (w1.alloc (.cells #[.slice (some ⟨g,0,none⟩) 0 0] 99)).cell? ⟨w1.heap.size,0,none⟩ = some (.slice (some ⟨g,0,none⟩) 0 0):=by rw [cell_of_row _ _ _ _ _ (0,0) (heap_alloc_new w1 _)]; rfl
 have hrow3:=(hb3.block w.heap.size hlw1).trans hrow0
 have hseq:=back_stops 2 (by decide) w1.heap.size b (w1.heap.size + 1) (some ⟨g,0,none⟩) (0) [] (fun x hx => by cases hx) (w1.alloc (.cells #[.slice (some ⟨g,0,none⟩) 0 0] 99)) (by omega) (by omega) (by rw [hs3]; exact Nat.le_refl _) hc3 (by unfold maxLen at *; omega) (Nat.zero_le _) (Nat.zero_le _) (fun h => absurd h (by decide))
 have eg : ∀ args w,(callFunc 72 args).run Tryz.prog w = .ok (.enter 72 args) w:=enters_of Tryz.func72 (by kernel_rfl) rfl
 refine (callsIn_wide (n:=3)).1 ?_
 refine callsIn_of_wp_marks Tryz.func23 rfl trivial ?_ rfl
 refine wpIn_wide.2 ?_
 simp only [Tryz.ntmps23,List.size_toArray,List.length_cons,List.length_nil,Nat.reduceAdd,Nat.reduceSub,Array.replicate_succ,Array.replicate_zero,List.push_toArray,List.append_toArray,List.nil_append,List.cons_append]
 unfold maxLen at hN
 have hm0 : ¬ ((N : Int) < 0):=by omega
 go_wp2_with fail
 refine hmk.mono ?_
 rintro e w2 ⟨rfl,rfl⟩
 go_wp2_with fail
 refine (backward_any _ _ _ _).mono ?_
 rintro e w3' ⟨rfl,rfl⟩
 go_wp2_with fail
 refine (wpIn_wide (n:=3)).1 ?_
 obtain ⟨w3,hw3⟩ : ∃ w3,w1.alloc (.cells #[.slice (some ⟨g,0,none⟩) 0 0] 99) = w3:=⟨_,rfl⟩
 rw [hw3] at hs3 hb3 hD3 hc3 hrow3 hseq ⊢
 clear hw3 hc3 hmk c2 hc1 hw1
 have hz:=zeroPu
 refine wpIn_rangeFunc_ownH rfl (by decide) (gf:=72) (lb:=#[.pointer (some ⟨w1.heap.size,0,none⟩)]) rfl trivial eg hseq KeepB.t (KeepB.b (by omega)) (Below.refl _ _) (fun _ => rfl)
  (fun pre W => DlAt W p b (.slice (some ⟨g,0,none⟩) N N) s ∧ Sole [b] w3 W ∧ pre.length = 0)
  (fun _ _ _ => False)
  (fun pre A B row ⟨k1,k2,k0⟩ hg hr => by
   have hlo : ∀ k,k < w3.heap.size → B.heap[k]? = A.heap[k]?:=fun k hk => hg.block k (Nat.lt_of_lt_of_le hk k2.size) (fun e => by have:=(hr k e.symm).1; omega)
   exact ⟨k1.keep3 hg.size (hlo p (by omega)) (hlo b (by omega)) (fun q hq => hlo q (by have:=hvw q hq; omega)),k2.after (S':=row.toList) ⟨hg.os,hg.tape,hg.output,hg.size,fun k hk hn => hg.block k hk (fun e => hn (by rw [Option.mem_toList]; exact e.symm))⟩ (fun k hk => by rw [Option.mem_toList] at hk; exact .inr (hr k hk).1),k0⟩)
  (fun _ _ _ _ _ hs _ _ => hs)
  ⟨hD3,Sole.refl _ _,rfl⟩
  (fun x a' W => True)
  (fun x a' _ _ _ _ _ _ _ => trivial) ?assign ?body ?done ?stop
 case assign =>
  rintro l pre x W K ⟨k1,k2,k0⟩ hK
  have hn:=heap_alloc_new W (.cells (puC pu0) 116)
  have hb:=alloc_row (A:=W) (.cells (puC pu0) 116) (puC x.x)
  obtain ⟨W1,hW1⟩ : ∃ W1,(W.alloc (.cells (puC pu0) 116)).setRow W.heap.size (puC x.x) = W1:=⟨_,rfl⟩
  rw [hW1] at hb
  have hg : W.grownBy W1 none:=⟨hb.os,hb.tape,hb.output,hb.size,fun k hk _ => hb.block k hk⟩
  have hko : KeepsOthers W W1:=KeepsOthers.of_grownBy hg (fun j o ej => by cases ej)
  gi_wp2_with (refine wpListIn_storeS rfl 116 _ _ rfl W.heap.size (puC x.x) rfl rfl 116 (puC pu0) hn (by rw [puC_size x.ok]; exact size_pu) (by rw [puC_size x.ok,puC_size pu0_ok]) (one_pu _) ?_; rw [hW1])
  have hks:=k2.size
  exact hK _ _ (hko.from _) ⟨hb.size,fun k hk _ => hb.block k (by omega)⟩ ⟨k1.below hb,k2.trans (Sole.of_below hb _),k0⟩ trivial
 case body =>
  rintro l pre x a' W hl0 hrec k1 k2 hlen
  exact absurd hlen (by simp)
 case done =>
  rintro D ys W hD hys ⟨k1,k2,_⟩ hK
  have hks:=k2.size
  have hrowW:=(k2.block w.heap.size (by omega) (by simp; omega)).trans hrow3
  have hrowP:=k1.row
  have hlp:=k1.lt
  have hDp : D ≠ p:=fun e => by rw [e,hrowP] at hK; cases hK
  have hDb : D ≠ b:=fun e => by
   obtain ⟨x,cl,hm⟩:=k1.mp.isMap
   rw [e,hm] at hK; cases hK
  have hDv : ∀ q,(.slice (some ⟨g,0,none⟩) N N : Value).ownBlock = some q → q ≠ D:=fun q hq e => by
   obtain ⟨cs,e1⟩:=own_row k1.pus hq
   rw [e,hK] at e1; cases e1
  have q1 : ∀ X,Below W.heap.size W X → X.heap[p]? = some (.cells (dlC s.most b (.slice (some ⟨g,0,none⟩) N N)) 101 (0,0)):=fun X hX => (hX.block p hlp).trans hrowP
  have q2 : ∀ X,Below W.heap.size W X → X.heap[w.heap.size]? = some (.cells #[.pointer (some ⟨p,0,none⟩)] 35 (0,0)):=fun X hX => (hX.block w.heap.size (by omega)).trans hrowW
  have hG1 : W.drew.heap[p]? = some (.cells (dlC s.most b (.slice (some ⟨g,0,none⟩) N N)) 101 (0,0)):=hrowP
  have c12 : W.drew.cell? ⟨p,2,none⟩ = some (.slice (some ⟨g,0,none⟩) N N):=by rw [cell_of_row _ _ _ _ _ (0,0) hG1]; rfl
  have f12:=frozen_of_row W.drew p 2 _ _ hG1
  have hG2:=heap_setCell_same W.drew p 2 _ _ (.slice (some ⟨g,0,none⟩) N N) hG1
  obtain ⟨X2,hX2⟩ : ∃ X2,W.drew.setCell ⟨p,2,none⟩ (.slice (some ⟨g,0,none⟩) N N) = X2:=⟨_,rfl⟩
  have hS12 : Sole [p] W X2:=by rw [← hX2]; exact (Sole.drew W _).trans (Sole.setCell _ _ (by simp))
  rw [hX2] at hG2
  have hG2' : X2.heap[p]? = some (.cells (dlC s.most b (.slice (some ⟨g,0,none⟩) N N)) 101 (0,0)):=hG2
  have HG2 : Hid _:=hG2'
  have HKD2 : Hid (X2.heap[D]? = some (.deferred (some []))):=(hS12.block D (Array.getElem?_eq_some_iff.1 hK).1 (by simpa using hDp)).trans hK
  have HX2 : Hid (Sole [p] W X2):=hS12
  have HK1 : Hid (DlAt W p b (.slice (some ⟨g,0,none⟩) N N) s):=k1
  have HK2 : Hid (Sole [b] w3 W):=k2
  have cd:=hdl W.drew
  clear hG2 hG2' hS12 k1 k2 hK hdl hseq hrow3 hrow0
  go_wp2_with fail
  refine wp_region_noPanic ?_
  refine wp_region_sink 14 (S:=fun X => Below W.heap.size W X) (by kernel_rfl) (by kernel_rfl) (Below.refl _ _).drew (fun hHeld => ?_)
  refine wpAnyH_take (i:=0) (v:=.pointer (some ⟨p,0,none⟩)) rfl (by kernel_rfl) (by kernel_rfl) (by kernel_rfl) (fun _ _ _ h => h) (yields_load (by rfl) _ _ rfl _ rfl _ (fun W h => load39 (q2 W h))) (by assumption) ?_
  try simp only [nz]
  refine wpAnyH_take (i:=1) (v:=.pointer (some ⟨p,0,none⟩)) rfl (by kernel_rfl) (by kernel_rfl) (by kernel_rfl) (fun _ _ _ h => h) (yields_load (by rfl) _ _ rfl _ rfl _ (fun W h => load39 (q2 W h))) (by assumption) ?_
  try simp only [nz]
  refine tk 2 (.pointer (some ⟨p,0,none⟩)) rfl ?_
  try simp only [nz]
  refine tk 3 (.pointer (some ⟨p,2,none⟩)) rfl ?_
  try simp only [nz]
  refine wpAnyH_take (i:=4) (v:=.slice (some ⟨g,0,none⟩) N N) rfl (by kernel_rfl) (by kernel_rfl) (by kernel_rfl) (fun _ _ _ h => h) (yields_load (by rfl) _ _ rfl _ rfl _ (fun W h => load2_row (q1 W h))) (by assumption) ?_
  try simp only [nz]
  refine tk 5 (.int .i64 N) rfl ?_
  try simp only [nz]
  refine wpAnyH_take (i:=6) (v:=.pointer (some ⟨p,0,none⟩)) rfl (by kernel_rfl) (by kernel_rfl) (by kernel_rfl) (fun _ _ _ h => h) (yields_load (by rfl) _ _ rfl _ rfl _ (fun W h => load39 (q2 W h))) (by assumption) ?_
  try simp only [nz]
  refine tk 7 (.pointer (some ⟨p,0,none⟩)) rfl ?_
  try simp only [nz]
  refine tk 8 (.pointer (some ⟨p,2,none⟩)) rfl ?_
  try simp only [nz]
  refine wpAnyH_take (i:=9) (v:=.slice (some ⟨g,0,none⟩) N N) rfl (by kernel_rfl) (by kernel_rfl) (by kernel_rfl) (fun _ _ _ h => h) (yields_load (by rfl) _ _ rfl _ rfl _ (fun W h => load2_row (q1 W h))) (by assumption) ?_
  try simp only [nz]
  refine tk 10 (.int .i64 N) rfl ?_
  try simp only [nz]
  refine rd 11 rfl (fun K hK => ?_)
  go_simp
  go_wp2_with (go_at_call 49; refine cd.mono ?_; rintro e X1 ⟨rfl,rfl⟩)
  refine hK.out _ _ hHeld (fun hHeld2 => ?_)
  clear hK K
  try simp only [nz]
  refine tk 12 (.pointer (some ⟨p,0,none⟩)) rfl ?_
  try simp only [nz]
  refine tk 13 (.pointer (some ⟨p,2,none⟩)) rfl ?_
  try simp only [nz]
  refine wpAnyH_done (by kernel_rfl) ?_ _
  refine Behind.run (by rfl) ?_
  go_simp
  go_wp2
  refine NoPanic.normal ?_
  clear q1 q2 hG1 c12 f12 hHeld hHeld2 cd
  go_wp2
  refine ⟨by simp,.inl ⟨_,_,rfl,run_takeDeferred HKD2.out,?_⟩⟩
  have a1:=HX2.out
  have a3:=HK2.out
  have s3:=a3.size
  have s1:=a1.size
  have e9 : (X2.putObj D (.deferred none)).heap.size = X2.heap.size:=by simp
  refine ⟨_,results_tmp rfl _ _ _,rfl,?_,?_⟩
  ·have k1:=HK1.out
   refine k1.keep3 (by rw [e9]; exact s1) ((World.putObj_heap_other (Ne.symm hDp)).trans (HG2.out.trans k1.row.symm)) ((World.putObj_heap_other (Ne.symm hDb)).trans (a1.block b k1.mp.lt (by simpa using hbp))) (fun q hq => ?_)
   obtain ⟨cs,e1⟩:=own_row k1.pus hq
   exact (World.putObj_heap_other (hDv q hq)).trans (a1.block q (Array.getElem?_eq_some_iff.1 e1).1 (by simpa using ne_of_type e1 k1.row (by decide)))
  ·exact ⟨a1.os.trans (a3.os.trans (hb3.os.trans hb1.os)),a1.tape.trans (a3.tape.trans (hb3.tape.trans hb1.tape)),a1.output.trans (a3.output.trans (hb3.output.trans hb1.output)),by rw [e9]; omega,fun k hk h1 h2 h3 => (World.putObj_heap_other (by omega)).trans ((a1.block k (by omega) (by simpa using h1)).trans ((a3.block k (by omega) (by simpa using h2)).trans ((hb3.block k (by omega)).trans (hb1.block k hk)))),fun k hk => .inl hk⟩
 case stop =>
  rintro D c pre W _ _ h _
  exact h.elim
theorem undo_c {w : World} {p b : Nat} {s : Dl} (hNe : s.pus.length = 0) (h : DlAt w p b (.slice none 0 0) s) : Calls Tryz.prog 23 #[.pointer (some ⟨p,0,none⟩),.int .i64 0] w fun e w' => e = .returned (.int .i64 0) ∧ DlAt w' p b (.slice none 0 0) s ∧ KeepQ p b (.slice none 0 0) w w' (.slice none 0 0):=by
 have hrow0:=heap_alloc_new w (.cells #[.pointer (some ⟨p,0,none⟩)] 35)
 have hb1 : Below w.heap.size w (w.alloc (.cells #[.pointer (some ⟨p,0,none⟩)] 35)):=(Below.refl _ w).alloc (Nat.le_refl _) _
 have hc1 : (w.alloc (.cells #[.pointer (some ⟨p,0,none⟩)] 35)).cell? ⟨w.heap.size,0,none⟩ = some (.pointer (some ⟨p,0,none⟩)):=by rw [cell_of_row _ _ _ _ _ (0,0) (heap_alloc_new w _)]; rfl
 have hD1:=h.below hb1
 have hmk:=dmark_any hD1
 have c2:=hD1.c2
 obtain ⟨w1,hw1⟩ : ∃ w1,w.alloc (.cells #[.pointer (some ⟨p,0,none⟩)] 35) = w1:=⟨_,rfl⟩
 rw [hw1] at hb1 hc1 hmk hD1 c2 hrow0
 have hpw:=h.lt
 have hbw:=h.mp.lt
 have hvw : ∀ q,(.slice none 0 0 : Value).ownBlock = some q → q < w.heap.size:=fun q hq => (World.ownsRow.lt h.pus q hq).2
 have hs1:=hb1.size
 have hbp:=h.bp
 have hlw1:=(Array.getElem?_eq_some_iff.1 hrow0).1
 have hdl:=fun W => delPu_id W none 0 0 (fun _ => rfl) (Nat.le_refl _) (Nat.zero_le _)
 rw [hNe] at hmk
 clear hNe h
 have hs3 : (w1.alloc (.cells #[.slice none 0 0] 99)).heap.size = w1.heap.size + 1:=by simp
 have hb3 : Below w1.heap.size w1 (w1.alloc (.cells #[.slice none 0 0] 99)):=(Below.refl _ w1).alloc (Nat.le_refl _) _
 have hD3:=hD1.below hb3
 have hc3 : (w1.alloc (.cells #[.slice none 0 0] 99)).cell? ⟨w1.heap.size,0,none⟩ = some (.slice none 0 0):=by rw [cell_of_row _ _ _ _ _ (0,0) (heap_alloc_new w1 _)]; rfl
 have hrow3:=(hb3.block w.heap.size hlw1).trans hrow0
 have hseq:=back_stops 2 (by decide) w1.heap.size b (w1.heap.size + 1) (none) (0) [] (fun x hx => by cases hx) (w1.alloc (.cells #[.slice none 0 0] 99)) (by omega) (by omega) (by rw [hs3]; exact Nat.le_refl _) hc3 (by unfold maxLen at *; omega) (Nat.zero_le _) (Nat.zero_le _) (fun h => absurd h (by decide))
 have eg : ∀ args w,(callFunc 72 args).run Tryz.prog w = .ok (.enter 72 args) w:=enters_of Tryz.func72 (by kernel_rfl) rfl
 refine (callsIn_wide (n:=3)).1 ?_
 refine callsIn_of_wp_marks Tryz.func23 rfl trivial ?_ rfl
 refine wpIn_wide.2 ?_
 simp only [Tryz.ntmps23,List.size_toArray,List.length_cons,List.length_nil,Nat.reduceAdd,Nat.reduceSub,Array.replicate_succ,Array.replicate_zero,List.push_toArray,List.append_toArray,List.nil_append,List.cons_append]
 go_wp2_with fail
 refine hmk.mono ?_
 rintro e w2 ⟨rfl,rfl⟩
 go_wp2_with fail
 refine (backward_any _ _ _ _).mono ?_
 rintro e w3' ⟨rfl,rfl⟩
 go_wp2_with fail
 refine (wpIn_wide (n:=3)).1 ?_
 obtain ⟨w3,hw3⟩ : ∃ w3,w1.alloc (.cells #[.slice none 0 0] 99) = w3:=⟨_,rfl⟩
 rw [hw3] at hs3 hb3 hD3 hc3 hrow3 hseq ⊢
 clear hw3 hc3 hmk c2 hc1 hw1
 have hz:=zeroPu
 refine wpIn_rangeFunc_ownH rfl (by decide) (gf:=72) (lb:=#[.pointer (some ⟨w1.heap.size,0,none⟩)]) rfl trivial eg hseq KeepB.t (KeepB.b (by omega)) (Below.refl _ _) (fun _ => rfl)
  (fun pre W => DlAt W p b (.slice none 0 0) s ∧ Sole [b] w3 W ∧ pre.length = 0)
  (fun _ _ _ => False)
  (fun pre A B row ⟨k1,k2,k0⟩ hg hr => by
   have hlo : ∀ k,k < w3.heap.size → B.heap[k]? = A.heap[k]?:=fun k hk => hg.block k (Nat.lt_of_lt_of_le hk k2.size) (fun e => by have:=(hr k e.symm).1; omega)
   exact ⟨k1.keep3 hg.size (hlo p (by omega)) (hlo b (by omega)) (fun q hq => hlo q (by have:=hvw q hq; omega)),k2.after (S':=row.toList) ⟨hg.os,hg.tape,hg.output,hg.size,fun k hk hn => hg.block k hk (fun e => hn (by rw [Option.mem_toList]; exact e.symm))⟩ (fun k hk => by rw [Option.mem_toList] at hk; exact .inr (hr k hk).1),k0⟩)
  (fun _ _ _ _ _ hs _ _ => hs)
  ⟨hD3,Sole.refl _ _,rfl⟩
  (fun x a' W => True)
  (fun x a' _ _ _ _ _ _ _ => trivial) ?assign ?body ?done ?stop
 case assign =>
  rintro l pre x W K ⟨k1,k2,k0⟩ hK
  have hn:=heap_alloc_new W (.cells (puC pu0) 116)
  have hb:=alloc_row (A:=W) (.cells (puC pu0) 116) (puC x.x)
  obtain ⟨W1,hW1⟩ : ∃ W1,(W.alloc (.cells (puC pu0) 116)).setRow W.heap.size (puC x.x) = W1:=⟨_,rfl⟩
  rw [hW1] at hb
  have hg : W.grownBy W1 none:=⟨hb.os,hb.tape,hb.output,hb.size,fun k hk _ => hb.block k hk⟩
  have hko : KeepsOthers W W1:=KeepsOthers.of_grownBy hg (fun j o ej => by cases ej)
  gi_wp2_with (refine wpListIn_storeS rfl 116 _ _ rfl W.heap.size (puC x.x) rfl rfl 116 (puC pu0) hn (by rw [puC_size x.ok]; exact size_pu) (by rw [puC_size x.ok,puC_size pu0_ok]) (one_pu _) ?_; rw [hW1])
  have hks:=k2.size
  exact hK _ _ (hko.from _) ⟨hb.size,fun k hk _ => hb.block k (by omega)⟩ ⟨k1.below hb,k2.trans (Sole.of_below hb _),k0⟩ trivial
 case body =>
  rintro l pre x a' W hl0 hrec k1 k2 hlen
  exact absurd hlen (by simp)
 case done =>
  rintro D ys W hD hys ⟨k1,k2,_⟩ hK
  have hks:=k2.size
  have hrowW:=(k2.block w.heap.size (by omega) (by simp; omega)).trans hrow3
  have hrowP:=k1.row
  have hlp:=k1.lt
  have hDp : D ≠ p:=fun e => by rw [e,hrowP] at hK; cases hK
  have hDb : D ≠ b:=fun e => by
   obtain ⟨x,cl,hm⟩:=k1.mp.isMap
   rw [e,hm] at hK; cases hK
  have hDv : ∀ q,(.slice none 0 0 : Value).ownBlock = some q → q ≠ D:=fun q hq e => by
   obtain ⟨cs,e1⟩:=own_row k1.pus hq
   rw [e,hK] at e1; cases e1
  have q1 : ∀ X,Below W.heap.size W X → X.heap[p]? = some (.cells (dlC s.most b (.slice none 0 0)) 101 (0,0)):=fun X hX => (hX.block p hlp).trans hrowP
  have q2 : ∀ X,Below W.heap.size W X → X.heap[w.heap.size]? = some (.cells #[.pointer (some ⟨p,0,none⟩)] 35 (0,0)):=fun X hX => (hX.block w.heap.size (by omega)).trans hrowW
  have hG1 : W.drew.heap[p]? = some (.cells (dlC s.most b (.slice none 0 0)) 101 (0,0)):=hrowP
  have c12 : W.drew.cell? ⟨p,2,none⟩ = some (.slice none 0 0):=by rw [cell_of_row _ _ _ _ _ (0,0) hG1]; rfl
  have f12:=frozen_of_row W.drew p 2 _ _ hG1
  have hG2:=heap_setCell_same W.drew p 2 _ _ (.slice none 0 0) hG1
  obtain ⟨X2,hX2⟩ : ∃ X2,W.drew.setCell ⟨p,2,none⟩ (.slice none 0 0) = X2:=⟨_,rfl⟩
  have hS12 : Sole [p] W X2:=by rw [← hX2]; exact (Sole.drew W _).trans (Sole.setCell _ _ (by simp))
  rw [hX2] at hG2
  have hG2' : X2.heap[p]? = some (.cells (dlC s.most b (.slice none 0 0)) 101 (0,0)):=hG2
  have HG2 : Hid _:=hG2'
  have HKD2 : Hid (X2.heap[D]? = some (.deferred (some []))):=(hS12.block D (Array.getElem?_eq_some_iff.1 hK).1 (by simpa using hDp)).trans hK
  have HX2 : Hid (Sole [p] W X2):=hS12
  have HK1 : Hid (DlAt W p b (.slice none 0 0) s):=k1
  have HK2 : Hid (Sole [b] w3 W):=k2
  have cd:=hdl W.drew
  clear hG2 hG2' hS12 k1 k2 hK hdl hseq hrow3 hrow0
  go_wp2_with fail
  refine wp_region_noPanic ?_
  refine wp_region_sink 14 (S:=fun X => Below W.heap.size W X) (by kernel_rfl) (by kernel_rfl) (Below.refl _ _).drew (fun hHeld => ?_)
  refine wpAnyH_take (i:=0) (v:=.pointer (some ⟨p,0,none⟩)) rfl (by kernel_rfl) (by kernel_rfl) (by kernel_rfl) (fun _ _ _ h => h) (yields_load (by rfl) _ _ rfl _ rfl _ (fun W h => load39 (q2 W h))) (by assumption) ?_
  try simp only [nz]
  refine wpAnyH_take (i:=1) (v:=.pointer (some ⟨p,0,none⟩)) rfl (by kernel_rfl) (by kernel_rfl) (by kernel_rfl) (fun _ _ _ h => h) (yields_load (by rfl) _ _ rfl _ rfl _ (fun W h => load39 (q2 W h))) (by assumption) ?_
  try simp only [nz]
  refine tk 2 (.pointer (some ⟨p,0,none⟩)) rfl ?_
  try simp only [nz]
  refine tk 3 (.pointer (some ⟨p,2,none⟩)) rfl ?_
  try simp only [nz]
  refine wpAnyH_take (i:=4) (v:=.slice none 0 0) rfl (by kernel_rfl) (by kernel_rfl) (by kernel_rfl) (fun _ _ _ h => h) (yields_load (by rfl) _ _ rfl _ rfl _ (fun W h => load2_row (q1 W h))) (by assumption) ?_
  try simp only [nz]
  refine tk 5 (.int .i64 0) rfl ?_
  try simp only [nz]
  refine wpAnyH_take (i:=6) (v:=.pointer (some ⟨p,0,none⟩)) rfl (by kernel_rfl) (by kernel_rfl) (by kernel_rfl) (fun _ _ _ h => h) (yields_load (by rfl) _ _ rfl _ rfl _ (fun W h => load39 (q2 W h))) (by assumption) ?_
  try simp only [nz]
  refine tk 7 (.pointer (some ⟨p,0,none⟩)) rfl ?_
  try simp only [nz]
  refine tk 8 (.pointer (some ⟨p,2,none⟩)) rfl ?_
  try simp only [nz]
  refine wpAnyH_take (i:=9) (v:=.slice none 0 0) rfl (by kernel_rfl) (by kernel_rfl) (by kernel_rfl) (fun _ _ _ h => h) (yields_load (by rfl) _ _ rfl _ rfl _ (fun W h => load2_row (q1 W h))) (by assumption) ?_
  try simp only [nz]
  refine tk 10 (.int .i64 0) rfl ?_
  try simp only [nz]
  refine rd 11 rfl (fun K hK => ?_)
  go_simp
  go_wp2_with (go_at_call 49; refine cd.mono ?_; rintro e X1 ⟨rfl,rfl⟩)
  refine hK.out _ _ hHeld (fun hHeld2 => ?_)
  clear hK K
  try simp only [nz]
  refine tk 12 (.pointer (some ⟨p,0,none⟩)) rfl ?_
  try simp only [nz]
  refine tk 13 (.pointer (some ⟨p,2,none⟩)) rfl ?_
  try simp only [nz]
  refine wpAnyH_done (by kernel_rfl) ?_ _
  refine Behind.run (by rfl) ?_
  go_simp
  go_wp2
  refine NoPanic.normal ?_
  clear q1 q2 hG1 c12 f12 hHeld hHeld2 cd
  go_wp2
  refine ⟨by simp,.inl ⟨_,_,rfl,run_takeDeferred HKD2.out,?_⟩⟩
  have a1:=HX2.out
  have a3:=HK2.out
  have s3:=a3.size
  have s1:=a1.size
  have e9 : (X2.putObj D (.deferred none)).heap.size = X2.heap.size:=by simp
  refine ⟨_,results_tmp rfl _ _ _,rfl,?_,?_⟩
  ·have k1:=HK1.out
   refine k1.keep3 (by rw [e9]; exact s1) ((World.putObj_heap_other (Ne.symm hDp)).trans (HG2.out.trans k1.row.symm)) ((World.putObj_heap_other (Ne.symm hDb)).trans (a1.block b k1.mp.lt (by simpa using hbp))) (fun q hq => ?_)
   obtain ⟨cs,e1⟩:=own_row k1.pus hq
   exact (World.putObj_heap_other (hDv q hq)).trans (a1.block q (Array.getElem?_eq_some_iff.1 e1).1 (by simpa using ne_of_type e1 k1.row (by decide)))
  ·exact ⟨a1.os.trans (a3.os.trans (hb3.os.trans hb1.os)),a1.tape.trans (a3.tape.trans (hb3.tape.trans hb1.tape)),a1.output.trans (a3.output.trans (hb3.output.trans hb1.output)),by rw [e9]; omega,fun k hk h1 h2 h3 => (World.putObj_heap_other (by omega)).trans ((a1.block k (by omega) (by simpa using h1)).trans ((a3.block k (by omega) (by simpa using h2)).trans ((hb3.block k (by omega)).trans (hb1.block k hk)))),fun k hk => .inl hk⟩
 case stop =>
  rintro D c pre W _ _ h _
  exact h.elim
theorem dundo_any {w : World} {p b : Nat} {v : Value} {s : Dl} (h : DlAt w p b v s) (m : Nat) (hm : m ≤ s.pus.length) (hbd : s.L.length + s.pus.length ≤ 20000) : Calls Tryz.prog 23 #[.pointer (some ⟨p,0,none⟩),.int .i64 m] w fun e w' => e = .returned (.int .i64 0) ∧ ∃ v',DlAt w' p b v' (undoS s m) ∧ KeepQ p b v w w' v':=by
 obtain ⟨hx,⟨e,hn⟩ | ⟨g,cap,cur,e,hb,hg,h5,h6,h7,h8⟩⟩:=h.pus
 ·subst e
  have hm0 : m = 0:=by omega
  subst hm0
  refine (undo_c hn h).mono ?_
  rintro e w' ⟨rfl,h1,h2⟩
  refine ⟨rfl,_,?_,h2⟩
  have:=undoS_all s
  rw [hn] at this
  rw [this]; exact h1
 ·subst e
  by_cases hlt : m < s.pus.length
  ·exact undo_row hlt h5 h6 rfl hbd h
  ·have hme : m = s.pus.length:=by omega
   subst hme
   rw [undoS_all]
   by_cases hc : cap = s.pus.length
   ·subst hc
    refine (undo_b1 h6 rfl h).mono ?_
    rintro e w' ⟨rfl,h1,h2⟩
    exact ⟨rfl,_,h1,h2⟩
   ·refine (undo_b2 hc h5 h6 rfl h).mono ?_
    rintro e w' ⟨rfl,h1,h2⟩
    exact ⟨rfl,_,h1,h2⟩
open Go.RowKit Go.Maps
structure Back (s t : Dl) : Prop where
 most : t.most = s.most
 le : s.pus.length ≤ t.pus.length
 take : t.pus.take s.pus.length = s.pus
 L : undoL t.L (t.pus.drop s.pus.length).reverse = s.L
theorem Back.refl (s : Dl) : Back s s:=⟨rfl,Nat.le_refl _,by rw [List.take_length],by rw [List.drop_length]; rfl⟩
theorem Back.put {s t : Dl} (h : Back s t) (ht : DlOk t) {c : Cg} (hc : CgOk c) : Back s (putS t c):=by
 by_cases h0 : (putX t c).2 = 0
 ·have hb:=put_back ht hc h0
  have e : putS t c = ⟨t.most,setL t.L (putX t c).1,t.pus ++ [⟨c.pl,wasX t c.pl,isX t c.pl⟩]⟩:=by unfold putS; rw [if_pos h0]
  rw [e] at hb ⊢
  refine ⟨h.most,by simp; have:=h.le; omega,?_,?_⟩
  ·dsimp only
   rw [List.take_append_of_le_length h.le]; exact h.take
  ·dsimp only at hb ⊢
   rw [List.drop_append_of_le_length h.le,List.reverse_append,List.reverse_cons,List.reverse_nil,List.nil_append,List.cons_append,List.nil_append]
   show undoL (undo1 _ _) _ = _
   rw [hb]; exact h.L
 ·rw [putS_err h0]; exact h
theorem Back.is {s t : Dl} (h : Back s t) : undoS t s.pus.length = s:=by
 unfold undoS
 rw [h.most,h.L,h.take]
structure RowT (b : Nat) (w : World) (ua : Option Addr) (L : List Cg) : Prop where
 at_ : 0 < L.length → ∃ g,ua = some ⟨g,0,none⟩ ∧ RowG w g L ∧ g ≠ b ∧ ∃ cs fr,w.heap[g]? = some (.cells cs 114 fr)
theorem RowT.keep {b : Nat} {w w' : World} {ua : Option Addr} {L : List Cg} (h : RowT b w ua L) (k : KeepD b w w') : RowT b w' ua L:=⟨fun hp => by
 obtain ⟨g,h1,h2,h3,cs,fr,h4⟩:=h.at_ hp
 have e:=k.block g h2.lt (fun hd => by
  rcases hd with e | ⟨cs',fr',e⟩ | ⟨cs',fr',e⟩
  ·exact h3 e
  ·rw [h4] at e; cases e
  ·rw [h4] at e; cases e)
 exact ⟨g,h1,⟨fun i hi j u hu => (World.cell?_of_block e).trans (h2.at_ i hi j u hu),Nat.lt_of_lt_of_le h2.lt k.size⟩,h3,cs,fr,e.trans h4⟩⟩
theorem RowT.below {b : Nat} {w w' : World} {ua : Option Addr} {L : List Cg} (h : RowT b w ua L) (hb : Below w.heap.size w w') : RowT b w' ua L:=h.keep (KeepD.of_below hb)
end Go.Proofs.YtgajjphjkbnaeaaGreat
