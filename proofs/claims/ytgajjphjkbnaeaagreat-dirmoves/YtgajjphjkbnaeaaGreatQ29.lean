/- VwStand, VwChg, VwChg2, VwGet, VwPut: in one text. -/
import Derived.Test.YtgajjphjkbnaeaaGreatQ1
import Derived.Test.YtgajjphjkbnaeaaGreatQ28
import Derived.Test.YtgajjphjkbnaeaaGreatQ11
import Derived.Test.YtgajjphjkbnaeaaGreatQ20
import Derived.Test.YtgajjphjkbnaeaaGreatQ14
import Derived.Test.YtgajjphjkbnaeaaGreatQ9
namespace Go.Proofs.YtgajjphjkbnaeaaGreat
open Go.RowKit
set_option linter.unusedVariables false
set_option maxHeartbeats 32000000
set_option maxRecDepth 100000
set_option linter.unusedSimpArgs false
def stE (l : List (ByteArray × ByteArray)) (q : Pl) : Int:=if plOk q then (if fdB l (keyS q) then decE q.part (valS l (keyS q)) else 0) else 30
def stB (l : List (ByteArray × ByteArray)) (q : Pl) : Bool:=plOk q && fdB l (keyS q) && decide (decE q.part (valS l (keyS q)) = 0)
def stI (l : List (ByteArray × ByteArray)) (q : Pl) : It:=if stB l q then decI q.part (valS l (keyS q)) else it0
theorem stI_ok (l : List (ByteArray × ByteArray)) (q : Pl) : ItOk (stI l q):=by
 unfold stI; split
 ·exact decI_ok _ _
 ·exact it0_ok
theorem ret_item3 {fn : Func} {R : Ending → World → Prop} {a : Act} {w : World} {p u x : Tmp} (h : fn.results = #[.cell p 128,.tmp u,.tmp x]) (g : Nat) (y : It) (hy : y.bytes.length = 32) (hp : a.tmps.getD p undef = .pointer (some ⟨g,0,none⟩)) (v : Value) (hu : a.tmps.getD u undef = v) (v' : Value) (hx : a.tmps.getD x undef = v')
  (hg : ItAt 128 w g y) (hd : a.defers = []) (hR : R (.returned (.tuple #[.agg (itC y),v,v'])) w) : bodyPost Tryz.prog fn R .ret a w:=by
 refine bodyPost_ret ?_ hd hR
 have hp' : a.tmps[p]?.getD undef = .pointer (some ⟨g,0,none⟩):=by simpa using hp
 have hu' : a.tmps[u]?.getD undef = v:=by simpa using hu
 have hx' : a.tmps[x]?.getD undef = v':=by simpa using hx
 have hl:=run_loadVar_row (P:=Tryz.prog) w g _ 128 (itC y) _ _ hg.row Tryz.underlying128 rfl (by rw [itC_size hy]; exact size_item)
 simp [results,h,hp',hu',hx',asAddr,hl,Result.andThen]
theorem ItAt.loadW {w : World} {g : Nat} {x : It} (h : ItAt 128 w g x) (hx : x.bytes.length = 32) : (Instr.loadAt 128 (.pointer (some ⟨g,0,none⟩))).run Tryz.prog w = .ok (.agg (itC x)) w:=by
 have:=run_loadAt_mid (P:=Tryz.prog) w g 0 128 (itC x).toList _ (fun j u hu => by rw [cell_of_row _ _ _ _ _ (0,0) h.row,Nat.zero_add,← Array.getElem?_toList]; exact hu) Tryz.underlying128 rfl (by rw [Array.length_toList,itC_size hx]; exact size_item)
 simpa using this
theorem standing_any {w : World} {g : Nat} {a : Option Addr} {n cap : Nat} {l : List (ByteArray × ByteArray)} (hS : SoAt w g a n cap l) (q : Pl) (hq : PlOk q) : Calls Tryz.prog 78 #[baV g,plV q] w fun e w' =>
  e = .returned (.tuple #[.agg (itC (stI l q)),.bool (stB l q),.int .i64 (stE l q)]) ∧ Below w.heap.size w w':=by
 have hz:=zeroItem
 have len0:=ch_zero.1
 have al : ∀ (A : World) (o : Obj),Below A.heap.size A (A.alloc o):=fun A o => (Below.refl _ A).alloc (Nat.le_refl _) o
 have hq1:=PlAt.laid w q
 have hb1:=al w (.cells (plCells q) 110)
 have HS1 : Hid (w.heap.size < (w.alloc (.cells (plCells q) 110)).heap.size):=by unfold Hid; simp
 obtain ⟨w1,hw1⟩ : ∃ w1,w.alloc (.cells (plCells q) 110) = w1:=⟨_,rfl⟩
 rw [hw1] at hq1 hb1 HS1
 have hi2:=ItAt.laid 128 w1 it0
 have hb2:=al w1 (.cells (itC it0) 128)
 obtain ⟨w2,hw2⟩ : ∃ w2,w1.alloc (.cells (itC it0) 128) = w2:=⟨_,rfl⟩
 rw [hw2] at hi2 hb2
 have hq2:=hq1.below hb2
 have hB2:=thenB hb1 hb2
 have lp2 : Hid _:=hq2.loadG
 have ck:=key_any w2 q hq
 unfold plE at ck
 rw [show plV q = .agg (plCells q) from rfl] at ck ⊢
 rw [show plV q = .agg (plCells q) from rfl] at lp2
 unfold baV
 go_enter Tryz.func78,Tryz.ntmps78
 go_wp2_with (refine wpList_loadG rfl 110 _ rfl _ rfl _ lp2.out ?_)
 refine ck.mono ?_
 rintro e w3 ⟨rfl,hb3⟩
 clear ck lp2
 have hB3:=thenB hB2 hb3
 have hi3:=hi2.below hb3
 have hq3:=hq2.below hb3
 have hle : w.heap.size ≤ w1.heap.size:=Nat.le_of_lt HS1.out
 cases hok : plOk q
 ·have e1 : Hid (stB l q = false):=by unfold Hid stB; rw [hok]; rfl
  have e2 : Hid (stI l q = it0):=by unfold Hid stI; rw [e1.out]; rfl
  have e3 : Hid (stE l q = 30):=by unfold Hid stE; rw [hok]; rfl
  rw [show (if false = true then (0 : Int) else 30) = 30 from rfl]
  clear hok
  go_wp2_with (first | (refine wpList_buildBy rfl 128 _ rfl _ rfl [] (by kernel_rfl) (itC it0) built_zero ?_) | (refine wpList_storeI rfl _ _ rfl w1.heap.size it0 it0 rfl rfl len0 len0 hi3 ?_))
  exact ret_item3 rfl w1.heap.size it0 len0 rfl _ rfl _ rfl (hi3.setRow _) rfl ⟨by rw [e1.out,e2.out,e3.out]; rfl,below_setRow hB3 hle _⟩
 ·rw [show (if true = true then (0 : Int) else 30) = 0 from rfl]
  have HK : Hid (plOk q = true):=hok
  clear hok
  have cg:=sget_any (hS.below hB3) (keyS q)
  go_wp2_with fail
  refine cg.mono ?_
  rintro e w4 ⟨rfl,hb4⟩
  clear cg
  have hB4:=thenB hB3 hb4
  have hi4:=hi3.below hb4
  have hq4:=hq3.below hb4
  cases hF : fdB l (keyS q)
  ·have e1 : Hid (stB l q = false):=by unfold Hid stB; rw [hF,Bool.and_false]; rfl
   have e2 : Hid (stI l q = it0):=by unfold Hid stI; rw [e1.out]; rfl
   have e3 : Hid (stE l q = 0):=by unfold Hid stE; rw [HK.out,hF]; rfl
   go_wp2_with (first | (refine wpList_buildBy rfl 128 _ rfl _ rfl [] (by kernel_rfl) (itC it0) built_zero ?_) | (refine wpList_storeI rfl _ _ rfl w1.heap.size it0 it0 rfl rfl len0 len0 hi4 ?_))
   exact ret_item3 rfl w1.heap.size it0 len0 rfl _ rfl _ rfl (hi4.setRow _) rfl ⟨by rw [e1.out,e2.out,e3.out]; rfl,below_setRow hB4 hle _⟩
  ·have HF : Hid (fdB l (keyS q) = true):=hF
   clear hF
   have p1:=hq4.c1
   have cd:=decode_any w4 q.part (valS l (keyS q))
   go_wp2_with fail
   refine cd.mono ?_
   rintro e w5 ⟨rfl,hb5⟩
   clear cd
   have hB5:=thenB hB4 hb5
   have hi5:=hi4.below hb5
   have hdo:=(decI_ok q.part (valS l (keyS q))).ch.1
   obtain ⟨de,hde⟩ : ∃ de,decE q.part (valS l (keyS q)) = de:=⟨_,rfl⟩
   obtain ⟨x,hx⟩ : ∃ x,decI q.part (valS l (keyS q)) = x:=⟨_,rfl⟩
   have HD : Hid (decE q.part (valS l (keyS q)) = de):=hde
   have HX : Hid (decI q.part (valS l (keyS q)) = x):=hx
   rw [hde,hx]
   rw [hx] at hdo
   clear hde hx
   have HO : Hid (x.bytes.length = 32):=hdo
   clear hdo
   have hn6:=ItAt.laid 128 w5 it0
   have hb6:=alloc_row (A:=w5) (.cells (itC it0) 128) (itC x)
   have hx6:=hn6.setRow x
   obtain ⟨w6,hw6⟩ : ∃ w6,(w5.alloc (.cells (itC it0) 128)).setRow w5.heap.size (itC x) = w6:=⟨_,rfl⟩
   rw [hw6] at hb6 hx6
   have hB6:=thenB hB5 hb6
   have hi6:=hi5.below hb6
   have l6 : Hid _:=hx6.loadW HO.out
   by_cases h0 : de = 0
   ·subst h0
    have e1 : Hid (stB l q = true):=by unfold Hid stB; rw [HK.out,HF.out,HD.out]; rfl
    have e2 : Hid (stI l q = x):=by unfold Hid stI; rw [e1.out,HX.out]; rfl
    have e3 : Hid (stE l q = 0):=by unfold Hid stE; rw [HK.out,HF.out,HD.out]; rfl
    go_wp2_with (first
     | (refine wpList_storeI rfl _ _ rfl w5.heap.size x it0 rfl rfl HO.out len0 hn6 ?_; rw [hw6])
     | (refine wpList_loadG rfl 128 _ rfl _ rfl _ l6.out ?_)
     | (refine wpList_storeI rfl _ _ rfl w1.heap.size x it0 rfl rfl HO.out len0 hi6 ?_))
    exact ret_item3 rfl w1.heap.size x HO.out rfl _ rfl _ rfl (hi6.setRow _) rfl ⟨by rw [e1.out,e2.out,e3.out]; rfl,below_setRow hB6 hle _⟩
   ·have e1 : Hid (stB l q = false):=by unfold Hid stB; rw [HK.out,HF.out,HD.out,decide_eq_false h0]; rfl
    have e2 : Hid (stI l q = it0):=by unfold Hid stI; rw [e1.out]; rfl
    have e3 : Hid (stE l q = de):=by unfold Hid stE; rw [HK.out,HF.out,HD.out]; rfl
    go_wp2_with (first
     | (refine wpList_storeI rfl _ _ rfl w5.heap.size x it0 rfl rfl HO.out len0 hn6 ?_; rw [hw6])
     | (refine wpList_buildBy rfl 128 _ rfl _ rfl [] (by kernel_rfl) (itC it0) built_zero ?_)
     | (refine wpList_storeI rfl _ _ rfl w1.heap.size it0 it0 rfl rfl len0 len0 hi6 ?_))
    exact ret_item3 rfl w1.heap.size it0 len0 rfl _ rfl _ rfl (hi6.setRow _) rfl ⟨by rw [e1.out,e2.out,e3.out]; rfl,below_setRow hB6 hle _⟩
theorem vwith_any (w : World) (k m l s : Int) (c : Cg) : Calls Tryz.prog 93 #[.agg #[.int .i64 k,.int .i64 m,.int .i64 l,.int .i64 s],.agg (cgC c)] w fun e w' => e = .returned (.agg #[.int .i64 k,.int .i64 (wM c m),.int .i64 (wL c l),.int .i64 (wS c s)]) ∧ Below w.heap.size w w':=by
 have hS:=with_laid w k m l s c
 obtain ⟨w1,hw1⟩ : ∃ w1,(((w.alloc (.cells #[.int .i64 k,.int .i64 m,.int .i64 l,.int .i64 s] 41)).alloc (.cells (cgC c) 114)).alloc (.cells #[.int .i64 0,.int .i64 0,.int .i64 0,.int .i64 0] 41)) = w1:=⟨_,rfl⟩
 rw [hw1] at hS
 have c6:=hS.c.c6
 have c8:=hS.c.c8
 have c9:=hS.c.c9
 have c10:=hS.c.c10
 have i0:=hS.i.cell 0 _ rfl
 have i1:=hS.i.cell 1 _ rfl
 have i2:=hS.i.cell 2 _ rfl
 have i3:=hS.i.cell 3 _ rfl
 have f1:=hS.i.fr 1
 have f2:=hS.i.fr 2
 have f3:=hS.i.fr 3
 have r0:=hS.r.cell 0 _ rfl
 have r1:=hS.r.cell 1 _ rfl
 have r2:=hS.r.cell 2 _ rfl
 have r3:=hS.r.cell 3 _ rfl
 have q0:=hS.r.fr 0
 have q1:=hS.r.fr 1
 have q2:=hS.r.fr 2
 have q3:=hS.r.fr 3
 have hr:=hS.r
 have hB:=hS.bel
 clear hS
 cases h1 : (bits .and .i64 c.fields 1 != 0) <;> cases h2 : (bits .and .i64 c.fields 2 != 0) <;> cases h4 : (bits .and .i64 c.fields 4 != 0)
 all_goals
  simp only [wM,wL,wS,bF,h1,h2,h4,if_true,if_false,Bool.false_eq_true]
  go_enter Tryz.func93,Tryz.ntmps93
  go_wp2
  refine ret_in rfl (w.heap.size + 1 + 1) _ _ _ _ rfl (InRow.put (k:=0) (m:=0) (l:=0) (s:=0) ?_ _ _ _ _) rfl ⟨rfl,?_⟩
  ·repeat (first | with_reducible exact hr | with_reducible refine InRow.apart ?_ _ _ _ (by omega))
  ·repeat (first | with_reducible exact hB | with_reducible refine Below.setCell ?_ (by dsimp only; omega) _)
theorem ItAt.loadV {T : TypeId} {w : World} {g : Nat} {x : It} (h : ItAt T w g x) (hx : x.bytes.length = 32) : (Instr.loadAt 90 (.pointer (some ⟨g,5,none⟩))).run Tryz.prog w = .ok (.agg (bytesV x.bytes)) w :=
 run_loadAt_mid w g 5 90 _ _ h.range Tryz.underlying90 rfl (by rw [List.length_map,hx]; exact size_chunk)
def laidI (x : It) (c : Cg) : It:=⟨0,0,0,0,0,layB x.bytes c.pt⟩
theorem laid_any (w : World) (x : It) (hx : ItOk x) (c : Cg) (hc : CgOk c) : Calls Tryz.prog 92 #[.agg (itC x),.agg (cgC c)] w fun e w' => e = .returned (.agg (itC (laidI x c))) ∧ Below w.heap.size w w':=by
 have hz:=zeroItem
 have len0:=ch_zero.1
 have HX : Hid (x.bytes.length = 32):=hx.ch.1
 have HC : Hid (c.pt.bytes.length = 32):=hc.pt.ch.1
 have HL : Hid ((layB x.bytes c.pt).length = 32):=layB_len _ _
 have al : ∀ (A : World) (o : Obj),Below A.heap.size A (A.alloc o):=fun A o => (Below.refl _ A).alloc (Nat.le_refl _) o
 have hx1:=ItAt.laid 128 w x
 have hb1:=al w (.cells (itC x) 128)
 obtain ⟨w1,hw1⟩ : ∃ w1,w.alloc (.cells (itC x) 128) = w1:=⟨_,rfl⟩
 rw [hw1] at hx1 hb1
 have hc2:=CgAt.laid w1 c
 have hb2:=al w1 (.cells (cgC c) 114)
 obtain ⟨w2,hw2⟩ : ∃ w2,w1.alloc (.cells (cgC c) 114) = w2:=⟨_,rfl⟩
 rw [hw2] at hc2 hb2
 have hr3:=ItAt.laid 128 w2 it0
 have hb3:=al w2 (.cells (itC it0) 128)
 obtain ⟨w3,hw3⟩ : ∃ w3,w2.alloc (.cells (itC it0) 128) = w3:=⟨_,rfl⟩
 rw [hw3] at hr3 hb3
 have lx : Hid _:=((hx1.below hb2).below hb3).loadV HX.out
 have lc : Hid _:=(hc2.below hb3).loadT HC.out
 have cl:=lay_any w3 x.bytes c.pt hx.ch hc.pt
 have hB3:=thenB (thenB hb1 hb2) hb3
 have HG : Hid (w.heap.size ≤ w2.heap.size):=Nat.le_trans hb1.size hb2.size
 go_enter Tryz.func92,Tryz.ntmps92
 go_wp2_with (first
  | (refine wpList_loadG rfl 90 _ rfl _ rfl _ lx.out ?_)
  | (refine wpList_loadG rfl 112 _ rfl _ rfl _ lc.out ?_))
 refine cl.mono ?_
 rintro e w4 ⟨rfl,hb4⟩
 clear cl
 have hr4:=hr3.below hb4
 have hB4:=thenB hB3 hb4
 go_wp2_with (first
  | (refine wpList_buildBy rfl 128 _ rfl _ rfl [(2,.agg (bytesV (layB x.bytes c.pt)))] (by kernel_rfl) (itC (laidI x c)) (built_chunk HL.out) ?_)
  | (refine wpList_storeI rfl _ _ rfl w2.heap.size (laidI x c) it0 rfl rfl HL.out len0 hr4 ?_))
 exact ret_item rfl w2.heap.size (laidI x c) HL.out rfl (hr4.setRow _) rfl ⟨rfl,below_setRow hB4 HG.out _⟩
theorem ItAt.loadJ {T : TypeId} {w : World} {g : Nat} {x : It} (h : ItAt T w g x) : (Instr.loadAt 41 (.pointer (some ⟨g,0,none⟩))).run Tryz.prog w = .ok (.agg #[.int .i64 x.kind,.int .i64 x.mode,.int .i64 x.links,.int .i64 x.size]) w :=
 run_loadAt_mid w g 0 41 _ _ h.rangeI Tryz.underlying41 rfl (by kernel_rfl)
def withI (x : It) (c : Cg) : It:=⟨x.kind,wM c x.mode,wL c x.links,wS c x.size,0,zeroC⟩
def freshI (c : Cg) : It:=⟨c.kind,c.mode,c.links,c.size,0,zeroC⟩
def leadI (c : Cg) : It:=⟨0,0,0,0,c.to,zeroC⟩
def chR (x : It) (is : Bool) (er : Int) (c : Cg) : It × Bool × Int :=
 if c.gone then (it0,false,0) else if c.fresh then (freshI c,true,0) else if c.pl.part = 2 then (leadI c,true,0) else if c.pt.fresh then (laidI it0 c,true,0)
 else if er ≠ 0 then (it0,false,er) else if c.pl.part = 3 then (laidI x c,true,0) else if is then (withI x c,true,0) else (it0,false,3)
def chL (l : List (ByteArray × ByteArray)) (c : Cg) : It × Bool × Int:=chR (stI l c.pl) (stB l c.pl) (stE l c.pl) c
theorem changed_any {w : World} {g : Nat} {a : Option Addr} {n cap : Nat} {l : List (ByteArray × ByteArray)} (hS : SoAt w g a n cap l) (c : Cg) (hc : CgOk c) : Calls Tryz.prog 77 #[baV g,.agg (cgC c)] w fun e w' =>
  e = .returned (.tuple #[.agg (itC (chL l c).1),.bool (chL l c).2.1,.int .i64 (chL l c).2.2]) ∧ Below w.heap.size w w':=by
 have hz:=zeroItem
 have len0:=ch_zero.1
 have HC : Hid (c.pt.bytes.length = 32):=hc.pt.ch.1
 have al : ∀ (A : World) (o : Obj),Below A.heap.size A (A.alloc o):=fun A o => (Below.refl _ A).alloc (Nat.le_refl _) o
 have hc1:=CgAt.laid w c
 have hb1:=al w (.cells (cgC c) 114)
 obtain ⟨w1,hw1⟩ : ∃ w1,w.alloc (.cells (cgC c) 114) = w1:=⟨_,rfl⟩
 rw [hw1] at hc1 hb1
 have hr2:=ItAt.laid 128 w1 it0
 have hb2:=al w1 (.cells (itC it0) 128)
 obtain ⟨w2,hw2⟩ : ∃ w2,w1.alloc (.cells (itC it0) 128) = w2:=⟨_,rfl⟩
 rw [hw2] at hr2 hb2
 have hB2:=thenB hb1 hb2
 have hle : w.heap.size ≤ w1.heap.size:=hb1.size
 have hc2:=hc1.below hb2
 have c1:=hc2.c1
 have c4:=hc2.c4
 have c5:=hc2.c5
 have c11:=hc2.c11
 have c12:=hc2.c12
 have lI : Hid _:=hc2.loadI
 have lP : Hid _:=hc2.loadP
 have lC : Hid _:=hc2.load HC.out
 unfold chL
 unfold baV
 cases hg : c.gone
 case true =>
  have HR : Hid (chR (stI l c.pl) (stB l c.pl) (stE l c.pl) c = (it0,false,0)):=by unfold Hid chR; rw [hg]; rfl
  rw [HR.out]
  rw [hg] at c4
  go_enter Tryz.func77,Tryz.ntmps77
  go_wp2_with (first | (refine wpList_buildBy rfl 128 _ rfl _ rfl [] (by kernel_rfl) (itC it0) built_zero ?_) | (refine wpList_storeI rfl _ _ rfl w1.heap.size it0 it0 rfl rfl len0 len0 hr2 ?_))
  exact ret_item3 rfl w1.heap.size it0 len0 rfl _ rfl _ rfl (hr2.setRow _) rfl ⟨rfl,below_setRow hB2 hle _⟩
 rw [hg] at c4
 cases hf : c.fresh
 case true =>
  have HR : Hid (chR (stI l c.pl) (stB l c.pl) (stE l c.pl) c = (freshI c,true,0)):=by unfold Hid chR; rw [hg,hf]; rfl
  rw [HR.out]
  rw [hf] at c5
  go_enter Tryz.func77,Tryz.ntmps77
  go_wp2_with (first
   | (refine wpList_loadG rfl 41 _ rfl _ rfl _ lI.out ?_)
   | (refine wpList_buildBy rfl 128 _ rfl _ rfl [(0,.agg #[.int .i64 c.kind,.int .i64 c.mode,.int .i64 c.links,.int .i64 c.size])] (by kernel_rfl) (itC (freshI c)) (built_inode _ _ _ _) ?_)
   | (refine wpList_storeI rfl _ _ rfl w1.heap.size (freshI c) it0 rfl rfl len0 len0 hr2 ?_))
  exact ret_item3 rfl w1.heap.size (freshI c) len0 rfl _ rfl _ rfl (hr2.setRow _) rfl ⟨rfl,below_setRow hB2 hle _⟩
 rw [hf] at c5
 by_cases hp : c.pl.part = 2
 ·have HR : Hid (chR (stI l c.pl) (stB l c.pl) (stE l c.pl) c = (leadI c,true,0)):=by unfold Hid chR; rw [hg,hf,if_pos hp]; rfl
  rw [HR.out]
  rw [hp] at c1
  go_enter Tryz.func77,Tryz.ntmps77
  go_wp2_with (first
   | (refine wpList_buildBy rfl 128 _ rfl _ rfl [(1,.int .u32 c.to)] (by kernel_rfl) (itC (leadI c)) (built_lead _) ?_)
   | (refine wpList_storeI rfl _ _ rfl w1.heap.size (leadI c) it0 rfl rfl len0 len0 hr2 ?_))
  exact ret_item3 rfl w1.heap.size (leadI c) len0 rfl _ rfl _ rfl (hr2.setRow _) rfl ⟨rfl,below_setRow hB2 hle _⟩
 have hpb : (c.pl.part == 2) = false:=by simpa using hp
 cases hpf : c.pt.fresh
 case true =>
  have HR : Hid (chR (stI l c.pl) (stB l c.pl) (stE l c.pl) c = (laidI it0 c,true,0)):=by unfold Hid chR; rw [hg,hf,if_neg hp,hpf]; rfl
  rw [HR.out]
  rw [hpf] at c12
  have HL : Hid ((laidI it0 c).bytes.length = 32):=layB_len _ _
  have cl:=laid_any w2 it0 it0_ok c hc
  go_enter Tryz.func77,Tryz.ntmps77
  go_wp2_with (first
   | (refine wpList_loadG rfl 114 _ rfl _ rfl _ lC.out ?_)
   | (refine wpList_buildBy rfl 128 _ rfl _ rfl [] (by kernel_rfl) (itC it0) built_zero ?_))
  refine cl.mono ?_
  rintro e w3 ⟨rfl,hb3⟩
  clear cl
  have hr3:=hr2.below hb3
  have hB3:=thenB hB2 hb3
  go_wp2_with (refine wpList_storeI rfl _ _ rfl w1.heap.size (laidI it0 c) it0 rfl rfl HL.out len0 hr3 ?_)
  exact ret_item3 rfl w1.heap.size (laidI it0 c) HL.out rfl _ rfl _ rfl (hr3.setRow _) rfl ⟨rfl,below_setRow hB3 hle _⟩
 rw [hpf] at c12
 have cs:=standing_any (hS.below hB2) c.pl hc.pl
 unfold baV at cs
 have hxo:=stI_ok l c.pl
 have HR0 : Hid (chR (stI l c.pl) (stB l c.pl) (stE l c.pl) c = if stE l c.pl ≠ 0 then (it0,false,stE l c.pl) else if c.pl.part = 3 then (laidI (stI l c.pl) c,true,0) else if stB l c.pl then (withI (stI l c.pl) c,true,0) else (it0,false,3)):=by unfold Hid chR; rw [hg,hf,if_neg hp,hpf]; rfl
 rw [HR0.out]
 clear HR0
 generalize stI l c.pl = x at *
 generalize stE l c.pl = er at *
 generalize stB l c.pl = is at *
 have HX : Hid (x.bytes.length = 32):=hxo.ch.1
 obtain ⟨R,hR⟩ : ∃ R,(if er ≠ 0 then (it0,false,er) else if c.pl.part = 3 then (laidI x c,true,0) else if is then (withI x c,true,0) else (it0,false,(3 : Int))) = R:=⟨_,rfl⟩
 have HR : Hid ((if er ≠ 0 then (it0,false,er) else if c.pl.part = 3 then (laidI x c,true,0) else if is then (withI x c,true,0) else (it0,false,(3 : Int))) = R):=hR
 rw [hR]
 clear hR
 go_enter Tryz.func77,Tryz.ntmps77
 go_wp2_with (refine wpList_loadG rfl 110 _ rfl _ rfl _ lP.out ?_)
 refine cs.mono ?_
 rintro e w3 ⟨rfl,hb3⟩
 clear cs c1 c4 c5 c11 c12 lI lP lC
 have hr3:=hr2.below hb3
 have hB3:=thenB hB2 hb3
 have hn4:=ItAt.laid 128 w3 it0
 have hb4:=alloc_row (A:=w3) (.cells (itC it0) 128) (itC x)
 have hx4:=hn4.setRow x
 obtain ⟨w4,hw4⟩ : ∃ w4,(w3.alloc (.cells (itC it0) 128)).setRow w3.heap.size (itC x) = w4:=⟨_,rfl⟩
 rw [hw4] at hb4 hx4
 have hr4:=hr3.below hb4
 have hB4:=thenB hB3 hb4
 have hc4:=(hc2.below hb3).below hb4
 have d1:=hc4.c1
 have lC4 : Hid _:=hc4.load HC.out
 by_cases he : er = 0
 case neg =>
  have e0 : Hid (R = (it0,false,er)):=by unfold Hid; rw [← HR.out,if_pos he]
  go_wp2_with (first
   | (refine wpList_storeI rfl _ _ rfl w3.heap.size x it0 rfl rfl HX.out len0 hn4 ?_; rw [hw4])
   | (refine wpList_buildBy rfl 128 _ rfl _ rfl [] (by kernel_rfl) (itC it0) built_zero ?_)
   | (refine wpList_storeI rfl _ _ rfl w1.heap.size it0 it0 rfl rfl len0 len0 hr4 ?_))
  exact ret_item3 rfl w1.heap.size it0 len0 rfl _ rfl _ rfl (hr4.setRow _) rfl ⟨by rw [e0.out]; rfl,below_setRow hB4 hle _⟩
 subst he
 by_cases hp3 : c.pl.part = 3
 ·have e0 : Hid (R = (laidI x c,true,0)):=by unfold Hid; rw [← HR.out,if_neg (by decide),if_pos hp3]
  rw [hp3] at d1
  have HL : Hid ((laidI x c).bytes.length = 32):=layB_len _ _
  have lx4 : Hid _:=hx4.loadW HX.out
  have cl:=laid_any w4 x hxo c hc
  go_wp2_with (first
   | (refine wpList_storeI rfl _ _ rfl w3.heap.size x it0 rfl rfl HX.out len0 hn4 ?_; rw [hw4])
   | (refine wpList_loadG rfl 128 _ rfl _ rfl _ lx4.out ?_)
   | (refine wpList_loadG rfl 114 _ rfl _ rfl _ lC4.out ?_))
  refine cl.mono ?_
  rintro e w5 ⟨rfl,hb5⟩
  clear cl
  have hr5:=hr4.below hb5
  have hB5:=thenB hB4 hb5
  go_wp2_with (refine wpList_storeI rfl _ _ rfl w1.heap.size (laidI x c) it0 rfl rfl HL.out len0 hr5 ?_)
  exact ret_item3 rfl w1.heap.size (laidI x c) HL.out rfl _ rfl _ rfl (hr5.setRow _) rfl ⟨by rw [e0.out]; rfl,below_setRow hB5 hle _⟩
 have hpb3 : (c.pl.part == 3) = false:=by simpa using hp3
 cases his : is
 ·have e0 : Hid (R = (it0,false,3)):=by unfold Hid; rw [← HR.out,if_neg (by decide),if_neg hp3,his]; rfl
  go_wp2_with (first
   | (refine wpList_storeI rfl _ _ rfl w3.heap.size x it0 rfl rfl HX.out len0 hn4 ?_; rw [hw4])
   | (refine wpList_buildBy rfl 128 _ rfl _ rfl [] (by kernel_rfl) (itC it0) built_zero ?_)
   | (refine wpList_storeI rfl _ _ rfl w1.heap.size it0 it0 rfl rfl len0 len0 hr4 ?_))
  exact ret_item3 rfl w1.heap.size it0 len0 rfl _ rfl _ rfl (hr4.setRow _) rfl ⟨by rw [e0.out]; rfl,below_setRow hB4 hle _⟩
 ·have e0 : Hid (R = (withI x c,true,0)):=by unfold Hid; rw [← HR.out,if_neg (by decide),if_neg hp3,his]; rfl
  have lj4 : Hid _:=hx4.loadJ
  have cw:=vwith_any w4 x.kind x.mode x.links x.size c
  go_wp2_with (first
   | (refine wpList_storeI rfl _ _ rfl w3.heap.size x it0 rfl rfl HX.out len0 hn4 ?_; rw [hw4])
   | (refine wpList_loadG rfl 41 _ rfl _ rfl _ lj4.out ?_)
   | (refine wpList_loadG rfl 114 _ rfl _ rfl _ lC4.out ?_))
  refine cw.mono ?_
  rintro e w5 ⟨rfl,hb5⟩
  clear cw
  have hr5:=hr4.below hb5
  have hB5:=thenB hB4 hb5
  go_wp2_with (first
   | (refine wpList_buildBy rfl 128 _ rfl _ rfl [(0,.agg #[.int .i64 x.kind,.int .i64 (wM c x.mode),.int .i64 (wL c x.links),.int .i64 (wS c x.size)])] (by kernel_rfl) (itC (withI x c)) (built_inode _ _ _ _) ?_)
   | (refine wpList_storeI rfl _ _ rfl w1.heap.size (withI x c) it0 rfl rfl len0 len0 hr5 ?_))
  exact ret_item3 rfl w1.heap.size (withI x c) len0 rfl _ rfl _ rfl (hr5.setRow _) rfl ⟨by rw [e0.out]; rfl,below_setRow hB5 hle _⟩
def vgR (l : List (ByteArray × ByteArray)) (s : Dl) (q : Pl) : It × Bool × Int:=if isX s q then chL l (wasX s q) else (stI l q,stB l q,stE l q)
theorem chR_len (x : It) (hx : x.bytes.length = 32) (is : Bool) (er : Int) (c : Cg) : (chR x is er c).1.bytes.length = 32:=by
 have h0:=ch_zero.1
 unfold chR
 repeat' split
 all_goals (first | exact h0 | exact layB_len _ _)
theorem wp_stC {w : World} {o : Oper} {a : Act} {K : Act → World → Prop} {Q : Exit → Act → World → Prop} (x y : Operand) (ho : o.op = .store 114 x y) (g : Nat) (z old : Cg) (hx : a.eval x = .pointer (some ⟨g,0,none⟩)) (hy : a.eval y = .agg (cgC z)) (hz : z.pt.bytes.length = 32) (hold : old.pt.bytes.length = 32) (hat : CgAt w g old)
  (h : K (a.put o.dst undef) (w.setRow g (cgC z))) : o.wp Tryz.prog a w K Q :=
 wp_store_row 114 x y ho g (cgC z) hx hy 114 (cgC old) hat.row (by rw [cgC_size hz]; exact size_cg) (by rw [cgC_size hz,cgC_size hold]) (one_cg z) h
theorem wp_stI {w : World} {o : Oper} {a : Act} {K : Act → World → Prop} {Q : Exit → Act → World → Prop} (x y : Operand) (ho : o.op = .store 128 x y) (g : Nat) (z old : It) (hx : a.eval x = .pointer (some ⟨g,0,none⟩)) (hy : a.eval y = .agg (itC z)) (hz : z.bytes.length = 32) (hold : old.bytes.length = 32) (hat : ItAt 128 w g old)
  (h : K (a.put o.dst undef) (w.setRow g (itC z))) : o.wp Tryz.prog a w K Q :=
 wp_store_row 128 x y ho g (itC z) hx hy 128 (itC old) hat.row (by rw [itC_size hz]; exact size_item) (by rw [itC_size hz,itC_size hold]) (one_item z) h
theorem vget_any {B : Nat} {w0 w : World} {v g p b : Nat} {s : Dl} {a : Option Addr} {n cap : Nat} {l : List (ByteArray × ByteArray)} (hv : VwAt w v g p) (hd : DlN B w0 w p b s) (hS : SoAt w g a n cap l) (q : Pl) (hq : PlOk q) : Calls Tryz.prog 57 #[.pointer (some ⟨v,0,none⟩),plV q] w fun e w' =>
  e = .returned (.tuple #[.agg (itC (vgR l s q).1),.bool (vgR l s q).2.1,.int .i64 (vgR l s q).2.2]) ∧ Below w.heap.size w w':=by
 have hz:=zeroItem
 have hzc:=zeroCg
 have len0:=ch_zero.1
 have lenc : cg0.pt.bytes.length = 32:=cg0_ok.pt.ch.1
 have al : ∀ (A : World) (o : Obj),Below A.heap.size A (A.alloc o):=fun A o => (Below.refl _ A).alloc (Nat.le_refl _) o
 have hsok : DlOk s:=by obtain ⟨v,hd,_⟩:=hd.d; exact hd.ok
 have hxok:=getL_ok hsok.L q
 have HXL : Hid ((wasX s q).pt.bytes.length = 32):=hxok.pt.ch.1
 have hq1:=PlAt.laid w q
 have hb1:=al w (.cells (plCells q) 110)
 obtain ⟨w1,hw1⟩ : ∃ w1,w.alloc (.cells (plCells q) 110) = w1:=⟨_,rfl⟩
 rw [hw1] at hq1 hb1
 have hi2:=ItAt.laid 128 w1 it0
 have hb2:=al w1 (.cells (itC it0) 128)
 have HSZ : Hid (w1.heap.size < (w1.alloc (.cells (itC it0) 128)).heap.size):=by unfold Hid; simp
 obtain ⟨w2,hw2⟩ : ∃ w2,w1.alloc (.cells (itC it0) 128) = w2:=⟨_,rfl⟩
 rw [hw2] at hi2 hb2 HSZ
 have qv1 : ∀ W,Below w2.heap.size w2 W → W.cell? ⟨v,1,none⟩ = some (.pointer (some ⟨p,0,none⟩)):=fun W hW => (hv.below (thenB (thenB hb1 hb2) hW)).c1
 have qp : ∀ W,Below w2.heap.size w2 W → (Instr.loadAt 110 (.pointer (some ⟨w.heap.size,0,none⟩))).run Tryz.prog W = .ok (.agg (plCells q)) W:=fun W hW => ((hq1.below hb2).below hW).loadG
 have cgt : ∀ W,Below w2.heap.size w2 W → Calls Tryz.prog 76 #[.pointer (some ⟨p,0,none⟩),.agg (plCells q)] W fun e w' => e = .returned (.tuple #[.agg (cgC (wasX s q)),.bool (isX s q)]) ∧ Below W.heap.size W w':=fun W hW => (hd.below (thenB (thenB hb1 hb2) hW)).get q hq
 have HV : Hid (∀ W,Below w1.heap.size w1 W → W.cell? ⟨v,0,none⟩ = some (.iface 37 (.pointer (some ⟨g,0,none⟩)))):=fun W hW => (hv.below (thenB hb1 hW)).c0
 have HQ : Hid (∀ W,Below w1.heap.size w1 W → (Instr.loadAt 110 (.pointer (some ⟨w.heap.size,0,none⟩))).run Tryz.prog W = .ok (.agg (plCells q)) W):=fun W hW => (hq1.below hW).loadG
 have HST : Hid (∀ W,Below w1.heap.size w1 W → Calls Tryz.prog 78 #[.iface 37 (.pointer (some ⟨g,0,none⟩)),.agg (plCells q)] W fun e w' => e = .returned (.tuple #[.agg (itC (stI l q)),.bool (stB l q),.int .i64 (stE l q)]) ∧ Below W.heap.size W w'):=fun W hW => standing_any (hS.below (thenB hb1 hW)) q hq
 have HCH : Hid (∀ W,Below w1.heap.size w1 W → Calls Tryz.prog 77 #[.iface 37 (.pointer (some ⟨g,0,none⟩)),.agg (cgC (wasX s q))] W fun e w' => e = .returned (.tuple #[.agg (itC (chL l (wasX s q)).1),.bool (chL l (wasX s q)).2.1,.int .i64 (chL l (wasX s q)).2.2]) ∧ Below W.heap.size W w'):=fun W hW => changed_any (hS.below (thenB hb1 hW)) (wasX s q) hxok
 have hlc : ((chL l (wasX s q)).1).bytes.length = 32:=chR_len _ (stI_ok l _).ch.1 _ _ _
 have hls : (stI l q).bytes.length = 32:=(stI_ok l q).ch.1
 have HR : Hid (vgR l s q = if isX s q then chL l (wasX s q) else (stI l q,stB l q,stE l q)):=rfl
 generalize vgR l s q = R at *
 generalize isX s q = is at *
 generalize wasX s q = c at *
 generalize chL l c = D at *
 obtain ⟨dI,dB,dE⟩:=D
 dsimp only at HCH hlc HR
 generalize stI l q = sI at *
 generalize stB l q = sB at *
 generalize stE l q = sE at *
 have HLC : Hid (dI.bytes.length = 32):=hlc
 have HLS : Hid (sI.bytes.length = 32):=hls
 clear hlc hls hsok hxok hS hd hv
 rw [show plV q = .agg (plCells q) from rfl]
 go_enter Tryz.func57,Tryz.ntmps57
 go_wp2_with fail
 refine wp_region_noPanic ?_
 refine wp_region_held_drew (S:=fun W => Below w2.heap.size w2 W) (by kernel_rfl) (Below.refl _ _).drew (fun hHeld => ?_)
 refine tk 0 (.pointer (some ⟨v,0,none⟩)) rfl ?_
 try simp only [nz]
 refine tk 1 (.pointer (some ⟨v,0,none⟩)) rfl ?_
 try simp only [nz]
 refine tk 2 (.pointer (some ⟨v,1,none⟩)) rfl ?_
 try simp only [nz]
 refine tk 3 (.pointer (some ⟨p,0,none⟩)) rfl ?_ (fun W hSw => by (try dsimp only at hSw); (have z:=qv1 W hSw; go_simp))
 try simp only [nz]
 refine wpAnyH_take (i:=4) (v:=.agg (plCells q)) rfl (by kernel_rfl) (by kernel_rfl) (by kernel_rfl) (fun _ _ _ h => h) (yields_load (by rfl) _ _ rfl _ rfl _ qp) (by assumption) ?_
 try simp only [nz]
 refine wpAnyH_ready (rs:=[5,9]) (by kernel_rfl) (by simp) ?_
 refine AllReadyH.cons rfl (fun K hK => ?_) (AllReadyH.cons rfl (fun K hK => ?_) AllReadyH.nil)
 ·go_simp
  go_wp2_with (go_at_call 76; refine (cgt _ (by assumption)).mono ?_; rintro e w5 ⟨rfl,hb5⟩)
  refine hK.out _ _ (hHeld.trans (hb5.mono hHeld.size)) (fun hHeld2 => ?_)
  clear hK K
  try simp only [nz]
  refine tk 6 (.tuple #[.agg (cgC c),.bool is]) rfl ?_
  try simp only [nz]
  refine tk 7 (.agg (cgC c)) rfl ?_
  try simp only [nz]
  refine tk 8 (.bool is) rfl ?_
  try simp only [nz]
  refine rd 9 rfl (fun K hK => ?_)
  go_simp
  go_wp2
  have hat:=CgAt.laid w5 cg0
  have HGE : Hid (w2.heap.size ≤ w5.heap.size):=hHeld2.size
  have hb6:=al w5 (.cells (cgC cg0) 114)
  obtain ⟨G,hG⟩ : ∃ G,w5.heap.size = G:=⟨_,rfl⟩
  refine hK.out _ _ (hHeld2.trans (hb6.mono hHeld2.size)) (fun hHeld3 => ?_)
  clear hK K
  try simp only [nz]
  obtain ⟨w6,hw6⟩ : ∃ w6,w5.alloc (.cells (cgC cg0) 114) = w6:=⟨_,rfl⟩
  have hi6 : ItAt 128 w6 w1.heap.size it0:=by rw [← hw6]; exact hi2.below (hHeld2.trans (hb6.mono hHeld2.size))
  rw [hw6] at hat hHeld3 ⊢
  rw [hG] at hat HGE ⊢
  clear hb6 hw6 hb5 hHeld2
  refine rd 10 rfl (fun K hK => ?_)
  rw [if_pos (by rfl)]
  refine wp_stC _ _ rfl G c cg0 rfl rfl HXL.out lenc hat ?_
  refine hK.out _ _ (below_setRow hHeld3 HGE.out _) (fun hHeld4 => ?_)
  clear hK K
  try simp only [nz]
  have hc7:=hat.setRow c
  have hi7 : ItAt 128 (w6.setRow G (cgC c)) w1.heap.size it0:=⟨(setRow_other _ _ _ _ (by have:=HGE.out; have:=HSZ.out; omega)).trans hi6.row⟩
  obtain ⟨w7,hw7⟩ : ∃ w7,w6.setRow G (cgC c) = w7:=⟨_,rfl⟩
  rw [hw7] at hc7 hi7 hHeld4 ⊢
  refine tk 11 (.bool is) rfl ?_
  try simp only [nz]
  refine wpAnyH_done (by kernel_rfl) ?_ _
  refine NoPanic.normal ?_
  have HB7 : Hid (Below w1.heap.size w1 w7):=hb2.trans (hHeld4.mono hb2.size)
  have HGN : Hid (G ≠ w1.heap.size):=by unfold Hid; have:=HGE.out; have:=HSZ.out; omega
  have HGL : Hid (w1.heap.size ≤ w1.heap.size):=Nat.le_refl _
  have e0:=HV.out
  have e1:=HQ.out
  have e2:=HST.out
  have e3:=HCH.out
  clear hHeld hHeld3 hHeld4 hat hi6 hw7 hG qv1 qp cgt HGE
  cases is
  ·go_wp2_with fail
   refine wp_region_noPanic ?_
   refine wp_region_held_drew (S:=fun W => Below w1.heap.size w1 W) (by kernel_rfl) HB7.out.drew (fun hHeld => ?_)
   refine tk 0 (.pointer (some ⟨v,0,none⟩)) rfl ?_
   try simp only [nz]
   refine tk 1 (.pointer (some ⟨v,0,none⟩)) rfl ?_
   try simp only [nz]
   refine tk 2 (.pointer (some ⟨v,0,none⟩)) rfl ?_
   try simp only [nz]
   refine tk 3 (.iface 37 (.pointer (some ⟨g,0,none⟩))) rfl ?_ (fun W hSw => by (try dsimp only at hSw); (have z:=e0 W hSw; go_simp))
   try simp only [nz]
   refine wpAnyH_take (i:=4) (v:=.agg (plCells q)) rfl (by kernel_rfl) (by kernel_rfl) (by kernel_rfl) (fun _ _ _ h => h) (yields_load (by rfl) _ _ rfl _ rfl _ e1) (by assumption) ?_
   try simp only [nz]
   refine rd 5 rfl (fun K hK => ?_)
   go_simp
   go_wp2_with (go_at_call 78; refine (e2 _ (by assumption)).mono ?_; rintro e w8 ⟨rfl,hb8⟩)
   refine hK.out _ _ (hHeld.trans (hb8.mono hHeld.size)) (fun hHeld2 => ?_)
   clear hK K
   try simp only [nz]
   refine tk 6 (.agg (itC sI)) rfl ?_
   try simp only [nz]
   refine tk 7 (.bool sB) rfl ?_
   try simp only [nz]
   refine tk 8 (.int .i64 sE) rfl ?_
   try simp only [nz]
   have hi8 : ItAt 128 w8 w1.heap.size it0:=ItAt.below (w:=w7.drew) ⟨hi7.row⟩ hb8
   refine rd 9 rfl (fun K hK => ?_)
   rw [if_pos (by rfl)]
   refine wp_stI _ _ rfl w1.heap.size sI it0 rfl rfl HLS.out len0 hi8 ?_
   refine hK.out _ _ (below_setRow hHeld2 (Nat.le_refl _) _) (fun hHeld3 => ?_)
   clear hK K
   try simp only [nz]
   refine tk 10 (.bool sB) rfl ?_
   try simp only [nz]
   refine tk 11 (.int .i64 sE) rfl ?_
   try simp only [nz]
   refine wpAnyH_done (by kernel_rfl) ?_ _
   refine NoPanic.normal ?_
   clear e0 e1 e2 e3
   go_wp2_with fail
   exact ret_item3 rfl w1.heap.size sI HLS.out rfl _ rfl _ rfl (hi8.setRow _) rfl ⟨by rw [HR.out]; rfl,hb1.trans (hHeld3.mono hb1.size)⟩
  ·have lC : ∀ W,(Below w1.heap.size w1 W ∧ CgAt W G c) → (Instr.loadAt 114 (.pointer (some ⟨G,0,none⟩))).run Tryz.prog W = .ok (.agg (cgC c)) W:=fun W h => h.2.load HXL.out
   go_wp2_with fail
   refine wp_region_noPanic ?_
   refine wp_region_held_drew (S:=fun W => Below w1.heap.size w1 W ∧ CgAt W G c) (by kernel_rfl) ⟨HB7.out.drew,hc7.drew⟩ (fun hHeld => ?_)
   refine tk 0 (.pointer (some ⟨v,0,none⟩)) rfl ?_
   try simp only [nz]
   refine tk 1 (.pointer (some ⟨v,0,none⟩)) rfl ?_
   try simp only [nz]
   refine tk 2 (.pointer (some ⟨v,0,none⟩)) rfl ?_
   try simp only [nz]
   refine tk 3 (.iface 37 (.pointer (some ⟨g,0,none⟩))) rfl ?_ (fun W hSw => by (try dsimp only at hSw); (have z:=e0 W hSw.1; go_simp))
   try simp only [nz]
   refine wpAnyH_take (i:=4) (v:=.agg (cgC c)) rfl (by kernel_rfl) (by kernel_rfl) (by kernel_rfl) (fun _ _ _ h => h) (yields_load (by rfl) _ _ rfl _ rfl _ lC) (by assumption) ?_
   try simp only [nz]
   refine rd 5 rfl (fun K hK => ?_)
   go_simp
   go_wp2_with (go_at_call 77; refine (e3 _ hHeld.1).mono ?_; rintro e w8 ⟨rfl,hb8⟩)
   refine hK.out _ _ ⟨hHeld.1.trans (hb8.mono hHeld.1.size),hHeld.2.below hb8⟩ (fun hHeld2 => ?_)
   clear hK K
   try simp only [nz]
   refine tk 6 (.agg (itC dI)) rfl ?_
   try simp only [nz]
   refine tk 7 (.bool dB) rfl ?_
   try simp only [nz]
   refine tk 8 (.int .i64 dE) rfl ?_
   try simp only [nz]
   have hi8 : ItAt 128 w8 w1.heap.size it0:=ItAt.below (w:=w7.drew) ⟨hi7.row⟩ hb8
   refine rd 9 rfl (fun K hK => ?_)
   rw [if_pos (by rfl)]
   refine wp_stI _ _ rfl w1.heap.size dI it0 rfl rfl HLC.out len0 hi8 ?_
   refine hK.out _ _ ⟨below_setRow hHeld2.1 (Nat.le_refl _) _,hHeld2.2.apartR _ _ HGN.out⟩ (fun hHeld3 => ?_)
   clear hK K
   try simp only [nz]
   refine tk 10 (.bool dB) rfl ?_
   try simp only [nz]
   refine tk 11 (.int .i64 dE) rfl ?_
   try simp only [nz]
   refine wpAnyH_done (by kernel_rfl) ?_ _
   refine NoPanic.normal ?_
   clear e0 e1 e2 e3 lC
   go_wp2_with fail
   exact ret_item3 rfl w1.heap.size dI HLC.out rfl _ rfl _ rfl (hi8.setRow _) rfl ⟨by rw [HR.out]; rfl,hb1.trans (hHeld3.1.mono hb1.size)⟩
 ·go_simp
  go_wp2
  have hat0 : CgAt (w2.alloc (.cells (cgC cg0) 114)).drew w2.heap.size cg0:=(CgAt.laid w2 cg0).drew
  have hb6:=(al w2 (.cells (cgC cg0) 114)).drew
  have HGE : Hid (w2.heap.size ≤ w2.heap.size):=Nat.le_refl _
  refine hK.out _ _ hb6 (fun hHeld2 => ?_)
  clear hK K
  try simp only [nz]
  obtain ⟨w5,hw5⟩ : ∃ w5,(w2.alloc (.cells (cgC cg0) 114)).drew = w5:=⟨_,rfl⟩
  rw [hw5] at hat0 hHeld2 ⊢
  clear hb6 hw5
  refine rd 5 rfl (fun K hK => ?_)
  go_simp
  go_wp2_with (go_at_call 76; refine (cgt _ (by assumption)).mono ?_; rintro e w6 ⟨rfl,hb5⟩)
  refine hK.out _ _ (hHeld2.trans (hb5.mono hHeld2.size)) (fun hHeld3 => ?_)
  clear hK K
  try simp only [nz]
  refine tk 6 (.tuple #[.agg (cgC c),.bool is]) rfl ?_
  try simp only [nz]
  refine tk 7 (.agg (cgC c)) rfl ?_
  try simp only [nz]
  refine tk 8 (.bool is) rfl ?_
  try simp only [nz]
  have hat:=hat0.below hb5
  have hi6 : ItAt 128 w6 w1.heap.size it0:=hi2.below hHeld3
  have hG : True:=trivial
  clear hat0 hb5 hHeld2
  refine rd 10 rfl (fun K hK => ?_)
  rw [if_pos (by rfl)]
  refine wp_stC _ _ rfl w2.heap.size c cg0 rfl rfl HXL.out lenc hat ?_
  refine hK.out _ _ (below_setRow hHeld3 HGE.out _) (fun hHeld4 => ?_)
  clear hK K
  try simp only [nz]
  have hc7:=hat.setRow c
  have hi7 : ItAt 128 (w6.setRow w2.heap.size (cgC c)) w1.heap.size it0:=⟨(setRow_other _ _ _ _ (by have:=HGE.out; have:=HSZ.out; omega)).trans hi6.row⟩
  obtain ⟨w7,hw7⟩ : ∃ w7,w6.setRow w2.heap.size (cgC c) = w7:=⟨_,rfl⟩
  rw [hw7] at hc7 hi7 hHeld4 ⊢
  refine tk 11 (.bool is) rfl ?_
  try simp only [nz]
  refine wpAnyH_done (by kernel_rfl) ?_ _
  refine NoPanic.normal ?_
  have HB7 : Hid (Below w1.heap.size w1 w7):=hb2.trans (hHeld4.mono hb2.size)
  have HGN : Hid (w2.heap.size ≠ w1.heap.size):=by unfold Hid; have:=HGE.out; have:=HSZ.out; omega
  have HGL : Hid (w1.heap.size ≤ w1.heap.size):=Nat.le_refl _
  have e0:=HV.out
  have e1:=HQ.out
  have e2:=HST.out
  have e3:=HCH.out
  clear hHeld hHeld3 hHeld4 hat hi6 hw7 hG qv1 qp cgt HGE
  cases is
  ·go_wp2_with fail
   refine wp_region_noPanic ?_
   refine wp_region_held_drew (S:=fun W => Below w1.heap.size w1 W) (by kernel_rfl) HB7.out.drew (fun hHeld => ?_)
   refine tk 0 (.pointer (some ⟨v,0,none⟩)) rfl ?_
   try simp only [nz]
   refine tk 1 (.pointer (some ⟨v,0,none⟩)) rfl ?_
   try simp only [nz]
   refine tk 2 (.pointer (some ⟨v,0,none⟩)) rfl ?_
   try simp only [nz]
   refine tk 3 (.iface 37 (.pointer (some ⟨g,0,none⟩))) rfl ?_ (fun W hSw => by (try dsimp only at hSw); (have z:=e0 W hSw; go_simp))
   try simp only [nz]
   refine wpAnyH_take (i:=4) (v:=.agg (plCells q)) rfl (by kernel_rfl) (by kernel_rfl) (by kernel_rfl) (fun _ _ _ h => h) (yields_load (by rfl) _ _ rfl _ rfl _ e1) (by assumption) ?_
   try simp only [nz]
   refine rd 5 rfl (fun K hK => ?_)
   go_simp
   go_wp2_with (go_at_call 78; refine (e2 _ (by assumption)).mono ?_; rintro e w8 ⟨rfl,hb8⟩)
   refine hK.out _ _ (hHeld.trans (hb8.mono hHeld.size)) (fun hHeld2 => ?_)
   clear hK K
   try simp only [nz]
   refine tk 6 (.agg (itC sI)) rfl ?_
   try simp only [nz]
   refine tk 7 (.bool sB) rfl ?_
   try simp only [nz]
   refine tk 8 (.int .i64 sE) rfl ?_
   try simp only [nz]
   have hi8 : ItAt 128 w8 w1.heap.size it0:=ItAt.below (w:=w7.drew) ⟨hi7.row⟩ hb8
   refine rd 9 rfl (fun K hK => ?_)
   rw [if_pos (by rfl)]
   refine wp_stI _ _ rfl w1.heap.size sI it0 rfl rfl HLS.out len0 hi8 ?_
   refine hK.out _ _ (below_setRow hHeld2 (Nat.le_refl _) _) (fun hHeld3 => ?_)
   clear hK K
   try simp only [nz]
   refine tk 10 (.bool sB) rfl ?_
   try simp only [nz]
   refine tk 11 (.int .i64 sE) rfl ?_
   try simp only [nz]
   refine wpAnyH_done (by kernel_rfl) ?_ _
   refine NoPanic.normal ?_
   clear e0 e1 e2 e3
   go_wp2_with fail
   exact ret_item3 rfl w1.heap.size sI HLS.out rfl _ rfl _ rfl (hi8.setRow _) rfl ⟨by rw [HR.out]; rfl,hb1.trans (hHeld3.mono hb1.size)⟩
  ·have lC : ∀ W,(Below w1.heap.size w1 W ∧ CgAt W w2.heap.size c) → (Instr.loadAt 114 (.pointer (some ⟨w2.heap.size,0,none⟩))).run Tryz.prog W = .ok (.agg (cgC c)) W:=fun W h => h.2.load HXL.out
   go_wp2_with fail
   refine wp_region_noPanic ?_
   refine wp_region_held_drew (S:=fun W => Below w1.heap.size w1 W ∧ CgAt W w2.heap.size c) (by kernel_rfl) ⟨HB7.out.drew,hc7.drew⟩ (fun hHeld => ?_)
   refine tk 0 (.pointer (some ⟨v,0,none⟩)) rfl ?_
   try simp only [nz]
   refine tk 1 (.pointer (some ⟨v,0,none⟩)) rfl ?_
   try simp only [nz]
   refine tk 2 (.pointer (some ⟨v,0,none⟩)) rfl ?_
   try simp only [nz]
   refine tk 3 (.iface 37 (.pointer (some ⟨g,0,none⟩))) rfl ?_ (fun W hSw => by (try dsimp only at hSw); (have z:=e0 W hSw.1; go_simp))
   try simp only [nz]
   refine wpAnyH_take (i:=4) (v:=.agg (cgC c)) rfl (by kernel_rfl) (by kernel_rfl) (by kernel_rfl) (fun _ _ _ h => h) (yields_load (by rfl) _ _ rfl _ rfl _ lC) (by assumption) ?_
   try simp only [nz]
   refine rd 5 rfl (fun K hK => ?_)
   go_simp
   go_wp2_with (go_at_call 77; refine (e3 _ hHeld.1).mono ?_; rintro e w8 ⟨rfl,hb8⟩)
   refine hK.out _ _ ⟨hHeld.1.trans (hb8.mono hHeld.1.size),hHeld.2.below hb8⟩ (fun hHeld2 => ?_)
   clear hK K
   try simp only [nz]
   refine tk 6 (.agg (itC dI)) rfl ?_
   try simp only [nz]
   refine tk 7 (.bool dB) rfl ?_
   try simp only [nz]
   refine tk 8 (.int .i64 dE) rfl ?_
   try simp only [nz]
   have hi8 : ItAt 128 w8 w1.heap.size it0:=ItAt.below (w:=w7.drew) ⟨hi7.row⟩ hb8
   refine rd 9 rfl (fun K hK => ?_)
   rw [if_pos (by rfl)]
   refine wp_stI _ _ rfl w1.heap.size dI it0 rfl rfl HLC.out len0 hi8 ?_
   refine hK.out _ _ ⟨below_setRow hHeld2.1 (Nat.le_refl _) _,hHeld2.2.apartR _ _ HGN.out⟩ (fun hHeld3 => ?_)
   clear hK K
   try simp only [nz]
   refine tk 10 (.bool dB) rfl ?_
   try simp only [nz]
   refine tk 11 (.int .i64 dE) rfl ?_
   try simp only [nz]
   refine wpAnyH_done (by kernel_rfl) ?_ _
   refine NoPanic.normal ?_
   clear e0 e1 e2 e3 lC
   go_wp2_with fail
   exact ret_item3 rfl w1.heap.size dI HLC.out rfl _ rfl _ rfl (hi8.setRow _) rfl ⟨by rw [HR.out]; rfl,hb1.trans (hHeld3.1.mono hb1.size)⟩
open Go.RowKit Go.Maps
theorem notQ {w : World} {p b : Nat} {v : Value} {s : Dl} (hd : DlAt w p b v s) {k : Nat} {cs : Array Value} {T : TypeId} {fr : Nat × Nat} (h : w.heap[k]? = some (.cells cs T fr)) (h1 : T ≠ 101) (h2 : T ≠ 116) : k ≠ p ∧ k ≠ b ∧ v.ownBlock ≠ some k:=by
 refine ⟨fun e => ?_,fun e => ?_,fun e => ?_⟩
 ·rw [e,hd.row] at h; simp only [Option.some.injEq,Obj.cells.injEq] at h; exact h1 h.2.1.symm
 ·obtain ⟨e0,cl,hm⟩:=hd.mp.isMap
  rw [e,hm] at h; cases h
 ·obtain ⟨cs',e'⟩:=own_row hd.pus e
  rw [e'] at h; simp only [Option.some.injEq,Obj.cells.injEq] at h; exact h2 h.2.1.symm
theorem KeepQ.undrew {p b : Nat} {v v' : Value} {w w' : World} (h : KeepQ p b v w.drew w' v') : KeepQ p b v w w' v':=⟨h.os,h.tape,h.output,h.size,h.block,h.own⟩
theorem KeepQ.row {w w' : World} {p b : Nat} {v v' : Value} {s : Dl} (k : KeepQ p b v w w' v') (hd : DlAt w p b v s) {i : Nat} {cs : Array Value} {T : TypeId} {fr : Nat × Nat} (h : w.heap[i]? = some (.cells cs T fr)) (h1 : T ≠ 101) (h2 : T ≠ 116) : w'.heap[i]? = some (.cells cs T fr):=by
 obtain ⟨a,b,c⟩:=notQ hd h h1 h2
 exact (k.block i (Array.getElem?_eq_some_iff.1 h).1 a b c).trans h
theorem VwAt.keepQ {w w' : World} {p b v g p' : Nat} {u u' : Value} {s : Dl} (h : VwAt w v g p') (hd : DlAt w p b u s) (k : KeepQ p b u w w' u') : VwAt w' v g p':=⟨k.row hd h.row (by decide) (by decide)⟩
theorem CgAt.keepQ {w w' : World} {p b g : Nat} {u u' : Value} {s : Dl} {c : Cg} (h : CgAt w g c) (hd : DlAt w p b u s) (k : KeepQ p b u w w' u') : CgAt w' g c:=⟨k.row hd h.row (by decide) (by decide)⟩
theorem vput_q {w : World} {v g p b : Nat} {vd : Value} {s : Dl} (hv : VwAt w v g p) (hd : DlAt w p b vd s) (c : Cg) (hc : CgOk c) (hL : s.L.length ≤ 5000) (hP : s.pus.length ≤ 5000) : Calls Tryz.prog 69 #[.pointer (some ⟨v,0,none⟩),.agg (cgC c)] w fun e w' =>
  e = .returned (.int .i64 (putX s c).2) ∧ PutOut w p b vd s c w':=by
 have HC : Hid (c.pt.bytes.length = 32):=hc.pt.ch.1
 have hc1:=CgAt.laid w c
 have hb1 : Below w.heap.size w (w.alloc (.cells (cgC c) 114)):=(Below.refl _ w).alloc (Nat.le_refl _) _
 obtain ⟨w1,hw1⟩ : ∃ w1,w.alloc (.cells (cgC c) 114) = w1:=⟨_,rfl⟩
 rw [hw1] at hc1 hb1
 have hv1:=hv.below hb1
 have hd1:=hd.below hb1
 have hd1':=hd1.drew
 have lC : ∀ W,(VwAt W v g p ∧ CgAt W w.heap.size c) → (Instr.loadAt 114 (.pointer (some ⟨w.heap.size,0,none⟩))).run Tryz.prog W = .ok (.agg (cgC c)) W:=fun W h => h.2.load HC.out
 have q1 : ∀ W,(VwAt W v g p ∧ CgAt W w.heap.size c) → W.cell? ⟨v,1,none⟩ = some (.pointer (some ⟨p,0,none⟩)):=fun W h => h.1.c1
 have cp:=dput_any hd1' c hc hL hP
 go_enter Tryz.func69,Tryz.ntmps69
 go_wp2_with fail
 refine wp_region_noPanic ?_
 refine wp_region_held_drew (S:=fun W => VwAt W v g p ∧ CgAt W w.heap.size c) (by kernel_rfl) ⟨⟨hv1.row⟩,hc1.drew⟩ (fun hHeld => ?_)
 refine tk 0 (.pointer (some ⟨v,0,none⟩)) rfl ?_
 try simp only [nz]
 refine tk 1 (.pointer (some ⟨v,0,none⟩)) rfl ?_
 try simp only [nz]
 refine tk 2 (.pointer (some ⟨v,1,none⟩)) rfl ?_
 try simp only [nz]
 refine tk 3 (.pointer (some ⟨p,0,none⟩)) rfl ?_ (fun W hSw => by (try dsimp only at hSw); (have z:=q1 W hSw; go_simp))
 try simp only [nz]
 refine wpAnyH_take (i:=4) (v:=.agg (cgC c)) rfl (by kernel_rfl) (by kernel_rfl) (by kernel_rfl) (fun _ _ _ h => h) (yields_load (by rfl) _ _ rfl _ rfl _ lC) (by assumption) ?_
 try simp only [nz]
 refine rd 5 rfl (fun K hK => ?_)
 go_simp
 go_wp2_with (go_at_call 85; refine cp.mono ?_; rintro e w5 ⟨rfl,vd5,hd5,hk5⟩)
 refine hK.out _ _ ⟨hHeld.1.keepQ hd1' hk5,hHeld.2.keepQ hd1' hk5⟩ (fun hHeld2 => ?_)
 clear hK K cp
 try simp only [nz]
 refine tk 6 (.int .i64 (putX s c).2) rfl ?_
 try simp only [nz]
 refine wpAnyH_done (by kernel_rfl) ?_ _
 refine NoPanic.normal ?_
 have HD : Hid (DlAt w5 p b vd5 (putS s c)):=hd5
 have HK : Hid (KeepQ p b vd w w5 vd5):=(KeepQ.of_below (p:=p) (b:=b) (v:=vd) hb1).trans (KeepQ.undrew hk5)
 clear lC q1 hHeld hHeld2 hd5 hk5
 go_wp2
 go_ret
 exact ⟨rfl,vd5,HD.out,HK.out⟩
end Go.Proofs.YtgajjphjkbnaeaaGreat
