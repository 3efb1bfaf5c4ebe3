/- InArg, DrT: in one text. -/
import Derived.Test.YtgajjphjkbnaeaaGreatQ30
import Derived.Test.YtgajjphjkbnaeaaGreatQ31
import Derived.Lib.SmallJoins
import Derived.Deep.Slices
import Derived.Test.YtgajjphjkbnaeaaGreatQ49
import Derived.Deep.LoopGhost
namespace Go.Proofs.YtgajjphjkbnaeaaGreat
open Go.RowKit
set_option linter.unusedVariables false
set_option maxHeartbeats 32000000
set_option maxRecDepth 100000
set_option linter.unusedSimpArgs false
theorem rows_of {H : Type} {enc : TypeId × Value → H} {W : World} {base : Nat} {held : Bool} {fuel : Nat} {a : Option Addr} {len cap : Nat} {x : DataW H × List MemPlace} {t e : TypeId} {α : Type} (k : Nat) (ec : α → List Value) (P : α → Prop) (d : α) (hk : 0 < k)
  (ht : Tryz.prog.underlying t = some (.slice e)) (hc : Tryz.prog.cellsOf e = k) (hl : ∀ x,(ec x).length = k)
  (one : ∀ (l : List Value) (n : Nat) (y : DataW H × List MemPlace),l.length = k → DataW.trod enc Tryz.prog W base (fun _ => true) held n e l = some y → ∃ p : α,P p ∧ l = ec p)
  (h : DataW.trod enc Tryz.prog W base (fun _ => true) held fuel t [.slice a len cap] = some x) : ∃ os : List α,RdZ k ec W (.slice a len cap) os ∧ ∀ o ∈ os,P o:=by
 rcases Deep.open_slice ht h with ⟨hcs,_⟩ | ⟨a',l,c,m,n,D,Pl,hcs,hb,hll,hm,hmm,_,hx⟩
 ·simp at hcs
  obtain ⟨rfl,rfl,rfl⟩:=hcs
  exact ⟨[],RdZ.nil _ _ _,by simp⟩
 ·simp at hcs
  obtain ⟨rfl,rfl,rfl⟩:=hcs
  have each : ∀ i,i < len → ∃ o : α,P o ∧ ∀ j u,(ec o)[j]? = some u → W.cell? (a'.add (i * k + j)) = some u:=by
   intro i hi
   obtain ⟨cs',h1,h2⟩:=hx i (by rw [hmm]; simp; omega)
   rw [hc] at h1
   obtain ⟨_,hlen,hcell⟩:=World.cells?_some h1
   obtain ⟨c,hc,er⟩:=one cs' n _ hlen h2
   refine ⟨c,hc,fun j u hu => ?_⟩
   have hj : j < k:=by
    have:=(List.getElem?_eq_some_iff.1 hu).1
    rw [hl] at this; exact this
   have q:=hcell j hj
   rw [Deep.add_add] at q
   rw [q,er]
   exact hu
  have hin : Inhabited α:=⟨d⟩
  obtain ⟨f,hf⟩:=Deep.choose_lt each
  refine ⟨(List.range len).map f,⟨⟨some a',cap,by simp,by simpa using hll,hm,fun hne => ?_⟩,fun c hv => by cases hv⟩,fun o ho => ?_⟩
  ·have hp : 0 < len:=by
    rcases Nat.eq_zero_or_pos len with h0 | h0
    ·subst h0; simp at hne
    ·exact h0
   obtain ⟨b,off,spot⟩:=a'
   obtain ⟨u0,hu0⟩ : ∃ u0,(ec (f 0))[0]? = some u0:=⟨_,List.getElem?_eq_getElem (by rw [hl]; exact hk)⟩
   have q0:=(hf 0 hp).2 0 _ hu0
   have hspot : spot = none:=by simpa [Addr.add] using World.cell?_spot q0
   subst hspot
   have hadd : ∀ j,(⟨b,off,none⟩ : Addr).add j = ⟨b,off + j,none⟩:=fun j => by unfold Addr.add; split <;> simp_all
   rw [hadd] at q0
   refine ⟨b,off,rfl,World.block_lt_of_cell? _ _ q0,fun i x j u hi hj => ?_⟩
   have hil : i < len:=by have:=(List.getElem?_eq_some_iff.1 hi).1; simpa using this
   rw [List.getElem?_map,List.getElem?_range hil] at hi
   simp only [Option.map_some,Option.some.injEq] at hi
   subst hi
   have q:=(hf i hil).2 j u hj
   rw [hadd,← Nat.add_assoc] at q
   exact q
  ·obtain ⟨i,hi,rfl⟩:=List.mem_map.1 ho
   exact (hf i (List.mem_range.1 hi)).1
open Go.RowKit Go.Maps
def rop0 : Rop:=⟨0,0,0,⟨#[]⟩,⟨#[]⟩⟩
def ropE (o : Rop) : List Value:=[.int .i64 o.d,.int .i64 o.k,.int .i64 o.m,.string o.old,.string o.p]
theorem rop_len (o : Rop) : (ropE o).length = 5:=rfl
theorem rop_ofL {H : Type} {enc : TypeId × Value → H} {W : World} {base : Nat} {held : Bool} {fuel : Nat} {l : List Value} {x : DataW H × List MemPlace} (hlen : l.length = 5)
  (h : DataW.trod enc Tryz.prog W base (fun _ => true) held fuel 56 l = some x) : ∃ p : Rop,(p.old.size ≤ maxLen ∧ p.p.size ≤ maxLen) ∧ l = ropE p:=by
 obtain ⟨xs,k,hk,hxy,_,hxl,hf⟩:=DataW.trod_struct Tryz.underlying56 h
 have hxl : xs.length = 5:=hxl
 clear hxy hk h
 match xs,hxl,l,hlen with
 | [y0,y1,y2,y3,y4],_,[v0,v1,v2,v3,v4],_ =>
  have g0 : DataW.trod enc Tryz.prog W base (fun _ => true) held k 3 (([v0,v1,v2,v3,v4].drop 0).take (Tryz.prog.cellsOf 3)) = some y0:=hf 0 _ rfl
  have g1 : DataW.trod enc Tryz.prog W base (fun _ => true) held k 3 (([v0,v1,v2,v3,v4].drop 1).take (Tryz.prog.cellsOf 3)) = some y1:=hf 1 _ rfl
  have g2 : DataW.trod enc Tryz.prog W base (fun _ => true) held k 3 (([v0,v1,v2,v3,v4].drop 2).take (Tryz.prog.cellsOf 3)) = some y2:=hf 2 _ rfl
  have g3 : DataW.trod enc Tryz.prog W base (fun _ => true) held k 9 (([v0,v1,v2,v3,v4].drop 3).take (Tryz.prog.cellsOf 9)) = some y3:=hf 3 _ rfl
  have g4 : DataW.trod enc Tryz.prog W base (fun _ => true) held k 9 (([v0,v1,v2,v3,v4].drop 4).take (Tryz.prog.cellsOf 9)) = some y4:=hf 4 _ rfl
  rw [show Tryz.prog.cellsOf 3 = 1 from by kernel_rfl] at g0 g1 g2
  rw [show Tryz.prog.cellsOf 9 = 1 from by kernel_rfl] at g3 g4
  simp only [List.drop_zero,List.drop_succ_cons,List.take_succ_cons,List.take_zero] at g0 g1 g2 g3 g4
  obtain ⟨z0,e0,_,w0⟩:=DataW.trod_int Tryz.underlying3 g0
  obtain ⟨z1,e1,_,w1⟩:=DataW.trod_int Tryz.underlying3 g1
  obtain ⟨z2,e2,_,w2⟩:=DataW.trod_int Tryz.underlying3 g2
  obtain ⟨z3,e3,_,w3⟩:=DataW.trod_string Tryz.underlying9 g3
  obtain ⟨z4,e4,_,w4⟩:=DataW.trod_string Tryz.underlying9 g4
  simp only [List.cons.injEq,and_true] at e0 e1 e2 e3 e4
  subst e0 e1 e2 e3 e4
  exact ⟨⟨z0,z1,z2,z3,z4⟩,⟨w3,w4⟩,rfl⟩
theorem rops_of {H : Type} {enc : TypeId × Value → H} {W : World} {base : Nat} {held : Bool} {fuel : Nat} {a : Option Addr} {len cap : Nat} {x : DataW H × List MemPlace}
  (h : DataW.trod enc Tryz.prog W base (fun _ => true) held fuel 22 [.slice a len cap] = some x) : ∃ os : List Rop,RdZ 5 ropE W (.slice a len cap) os ∧ ∀ o ∈ os,o.old.size ≤ maxLen ∧ o.p.size ≤ maxLen:=by
 exact rows_of 5 ropE (fun o => o.old.size ≤ maxLen ∧ o.p.size ≤ maxLen) rop0 (by decide) Tryz.underlying22 (by kernel_rfl) rop_len (fun l n y h1 h2 => rop_ofL h1 h2) h
theorem rop_load {w : World} {a : Option Addr} {n cap : Nat} {l : List Rop} (h : RdZ 5 ropE w (.slice a n cap) l) {i : Nat} {x : Rop} (hx : l[i]? = some x) :
  ∃ b off,a = some ⟨b,off,none⟩ ∧ (Instr.loadAt 56 (.pointer (some ⟨b,off + i * 5,none⟩))).run Tryz.prog w = .ok (.agg (ropC x)) w:=by
 obtain ⟨⟨a',c,e,h1,h2,h3⟩,_⟩:=h
 simp only [Value.slice.injEq] at e
 obtain ⟨rfl,rfl,rfl⟩:=e
 obtain ⟨b,off,rfl,hlt,hc⟩:=h3 (by intro e; subst e; simp at hx)
 refine ⟨b,off,rfl,?_⟩
 have hr : w.rangeAt b (off + i * 5) (ropE x):=fun j u hu => hc i x j u hx hu
 exact run_loadAt_mid (P:=Tryz.prog) w b (off + i * 5) 56 _ _ hr Tryz.underlying56 rfl (by kernel_rfl)
structure Sc (P : Nat → Sg → Prop) : Prop where
 z : P 0 (sg0 rootL 64 2)
 s : ∀ {i : Nat} {s : Sg} (o : Rop),i < 40 → Jv s → P i s → o.old.size ≤ maxLen ∧ o.p.size ≤ maxLen → (doneR s o).2 = 0 → Jr s (doneR s o).1 → P (i + 1) (doneR s o).1
 b : ∀ {i : Nat} {s t : Sg} (o : Rop),i < 40 → Jv s → P i s → t.l = s.l → t.d = s.d → t.n = (doneR s o).1.n → P (i + 1) t
theorem Pr.c1 {B : Nat} {w0 w : World} {pp : Nat} {a : Sa} {s : Sg} (h : Pr B w0 w pp a s) : w.cell? ⟨pp,1,none⟩ = some (.pointer (some ⟨a.p,0,none⟩)):=by
 obtain ⟨X,x,h1,_⟩:=h.ex
 exact h1.c1
theorem Pr.sr {B : Nat} {w0 w : World} {pp : Nat} {a : Sa} {s : Sg} (h : Pr B w0 w pp a s) : w.cell? ⟨a.s,1,none⟩ = some (.pointer (some ⟨a.r,0,none⟩)):=by
 obtain ⟨X,x,_,h2⟩:=h.ex
 exact h2.c1
theorem Pr.mD {B : Nat} {w0 w : World} {pp : Nat} {a : Sa} {s : Sg} (h : Pr B w0 w pp a s) : Calls Tryz.prog 20 #[.pointer (some ⟨a.p,0,none⟩)] w fun e w' => e = .returned (.int .i64 s.d.pus.length) ∧ w' = w:=by
 obtain ⟨X,x,_,h2⟩:=h.ex
 exact h2.markD
theorem Pr.mR {B : Nat} {w0 w : World} {pp : Nat} {a : Sa} {s : Sg} (h : Pr B w0 w pp a s) : Calls Tryz.prog 21 #[.pointer (some ⟨a.r,0,none⟩)] w fun e w' => e = .returned (.int .i64 s.R.length) ∧ w = w':=by
 obtain ⟨X,x,_,h2⟩:=h.ex
 exact h2.markRm
theorem Pr.uD {B : Nat} {w0 w : World} {pp : Nat} {a : Sa} {s : Sg} (h : Pr B w0 w pp a s) (m : Nat) (hm : m ≤ s.d.pus.length) (hbd : s.d.L.length + s.d.pus.length ≤ 20000) : Calls Tryz.prog 23 #[.pointer (some ⟨a.p,0,none⟩),.int .i64 m] w fun e w' => Pr B w0 w' pp a { s with d:=undoS s.d m } ∧ e = .returned (.int .i64 0) :=
 h.callD (fun X hX => (hX.undoD m hm hbd).mono (fun e w' r => ⟨r.2,r.1⟩))
theorem Pr.uR {B : Nat} {w0 w : World} {pp : Nat} {a : Sa} {s : Sg} (h : Pr B w0 w pp a s) (m : Nat) (hm : m ≤ s.R.length) : Calls Tryz.prog 24 #[.pointer (some ⟨a.r,0,none⟩),.int .i64 m] w fun e w' => Pr B w0 w' pp a { s with R:=s.R.take m } ∧ e = .returned (.int .i64 0) :=
 h.callD (fun X hX => (hX.undoRm m hm).mono (fun e w' r => ⟨r.2,r.1⟩))
theorem Jv.back {s t : Sg} (h : Jv s) (hl : t.l = s.l) (hd : t.d = s.d) : Jv t:=⟨by rw [hd]; exact h.d,by rw [hd]; exact h.c,by rw [hl]; exact h.l,by rw [hd]; exact h.L,by rw [hd]; exact h.m⟩
theorem jv_0 : Jv (sg0 rootL 64 2):=⟨newS_ok (by decide),(fun c hc => absurd hc (by simp [sg0,newS])),by decide,by decide,by decide⟩
theorem script_any {P : Nat → Sg → Prop} (q : Sc P) (w : World) (ao : Option Addr) (on oc : Nat) (os : List Rop) (ho : RdZ 5 ropE w (.slice ao on oc) os) (hos : ∀ o ∈ os,o.old.size ≤ maxLen ∧ o.p.size ≤ maxLen) : Calls Tryz.prog 7 #[.slice ao on oc] w fun e w' =>
  ∃ (pp : Nat) (a : Sa) (B : Nat) (w0 : World) (j : Nat) (s : Sg),e = .returned (.pointer (some ⟨pp,0,none⟩)) ∧ Pr B w0 w' pp a s ∧ Below w.heap.size w w0 ∧ w.heap.size ≤ B ∧ j ≤ 40 ∧ P j s ∧ Jv s ∧ Sk s 2000:=by
 obtain ⟨hon,honc,hocm⟩:=ho.len
 have HO : Hid (RdZ 5 ropE w (.slice ao on oc) os):=ho
 have HON : Hid (os.length = on ∧ on ≤ maxLen):=⟨hon,Nat.le_trans honc hocm⟩
 have HOS : Hid (∀ o ∈ os,o.old.size ≤ maxLen ∧ o.p.size ≤ maxLen):=hos
 have cr:=root_any w
 clear ho hon honc hocm hos
 go_enter Tryz.func7,Tryz.ntmps7
 go_wp2_with fail
 refine cr.mono ?_
 rintro e w1 ⟨g,rfl,hr,hb1,hg,hg2⟩
 clear cr
 have cb:=begin_in w1 (some ⟨g,0,none⟩) 1 1 rootL hr (Nat.le_refl _) (fun q _ e => by cases e; exact hg2) 64 (by decide) 2 (by decide) (by decide)
 have HB1 : Hid (Below w.heap.size w w1):=hb1
 clear hr hb1 hg hg2
 go_wp2_with fail
 refine cb.mono ?_
 intro e w2 hbg
 obtain ⟨pp,a,rfl,hp⟩:=Pr.of hbg (Nat.le_refl _)
 have HP0 : Hid (Pr w1.heap.size w1 w2 pp a (sg0 rootL 64 2)):=hp
 clear cb hbg hp
 have honI : (on : Int) ≤ 9223372036854775807:=by have:=HON.out.2; unfold maxLen at this; omega
 go_wp2_with fail
 go_loopg [5,12] on (fun kx s5 s12 wr => ∃ (i j : Nat) (s : Sg),s12 = .int .i64 i ∧ i ≤ on ∧ on - i ≤ kx ∧ j ≤ i ∧ j ≤ 40 ∧ Hid (Pr w1.heap.size w1 wr pp a s) ∧ Hid (P j s ∧ Jv s ∧ Sk s (50 * j)))
 case atStart => exact ⟨0,0,_,rfl,Nat.zero_le _,by omega,Nat.le_refl _,by omega,HP0,⟨q.z,jv_0,sk0 _ _ _⟩⟩
 case round =>
  obtain ⟨i,j,s,rfl,hin,hkx,hji,hj40,HP,HQ⟩:=hrel
  have HBR : Hid (Below w.heap.size w wr):=HB1.out.trans (HP.out.bel.mono HB1.out.size)
  by_cases hlt : i < on
  ·obtain ⟨⟨rd,rk,rm,ro,rp⟩,hx⟩ : ∃ o,os[i]? = some o:=⟨_,List.getElem?_eq_getElem (by have:=HON.out.1; omega)⟩
   have HSZ : Hid (ro.size ≤ maxLen ∧ rp.size ≤ maxLen):=HOS.out _ (List.mem_of_getElem? hx)
   obtain ⟨bo,oo,rfl,hld⟩:=rop_load (HO.out.below HBR.out) hx
   unfold ropC at hld
   dsimp only at hld
   have HLD : Hid _:=hld
   have hbl:=bel1 wr (.cells (ropC ⟨rd,rk,rm,ro,rp⟩) 56)
   have hop : RopAt (wr.alloc (.cells (ropC ⟨rd,rk,rm,ro,rp⟩) 56)) wr.heap.size ⟨rd,rk,rm,ro,rp⟩:=⟨heap_alloc_new wr _⟩
   have hiI : (i : Int) < (on : Int):=by omega
   have hib : (i : Int) + 1 ≤ 9223372036854775807:=by omega
   obtain ⟨w5,hw5⟩ : ∃ w5,wr.alloc (.cells (ropC ⟨rd,rk,rm,ro,rp⟩) 56) = w5:=⟨_,rfl⟩
   rw [hw5] at hbl hop
   unfold ropC at hw5
   dsimp only at hw5
   have v3:=hop.c3
   have v4:=hop.c4
   have LO : Hid _:=hop.load
   have HP5 : Hid (Pr w1.heap.size w1 w5 pp a s):=HP.out.below hbl
   have HI : Hid (i ≤ on ∧ on - i ≤ gk ∧ j ≤ i ∧ j ≤ 40 ∧ i < on):=⟨hin,hkx,hji,hj40,hlt⟩
   clear hx hld hbl hop
   go_upto_region 5 with (first | (refine wpList_loadG rfl 56 _ rfl _ rfl _ HLD.out ?_))
   try rw [hw5]
   clear hw5
   by_cases hc : i < 40 ∧ wrap64 ((rp.size : Int) + (ro.size : Int)) ≤ 10000
   ·obtain ⟨h40,hsz⟩:=hc
    have h40I : (i : Int) < 40:=by omega
    have q1:=HP5.out.c1
    have cm:=HP5.out.mD
    go_wp2_with fail
    refine cm.mono ?_
    rintro e x5 ⟨rfl,rfl⟩
    clear cm q1
    have q0:=HP5.out.c0
    have qr:=HP5.out.sr
    have cm:=HP5.out.mR
    go_wp2_with fail
    refine cm.mono ?_
    rintro e x6 ⟨rfl,rfl⟩
    clear cm q0 qr
    obtain ⟨k1,k2,k3⟩:=HQ.out
    have hms : ro.size ≤ maxLen ∧ rp.size ≤ maxLen:=HSZ.out
    have cd:=done_any HP5.out k2 k3 (by omega) ⟨rd,rk,rm,ro,rp⟩ hms
    unfold DnOut at cd
    have HSS : Hid ((doneR s ⟨rd,rk,rm,ro,rp⟩).2 = 0 → Jr s (doneR s ⟨rd,rk,rm,ro,rp⟩).1 → P (j + 1) (doneR s ⟨rd,rk,rm,ro,rp⟩).1):=fun h1 h2 => q.s ⟨rd,rk,rm,ro,rp⟩ (by omega) k2 k1 hms h1 h2
    have HSB : Hid (∀ t : Sg,t.l = s.l → t.d = s.d → t.n = (doneR s ⟨rd,rk,rm,ro,rp⟩).1.n → P (j + 1) t):=fun t h1 h2 h3 => q.b ⟨rd,rk,rm,ro,rp⟩ (by omega) k2 k1 h1 h2 h3
    have HJ : Hid (Jv s ∧ Sk s (50 * j)):=⟨k2,k3⟩
    generalize doneR s ⟨rd,rk,rm,ro,rp⟩ = RR at *
    obtain ⟨t1,e1⟩:=RR
    dsimp only at cd HSS HSB
    unfold ropC at LO cd
    dsimp only at LO cd
    clear k1 k2 k3 hms
    go_wp2_with (first | (refine wpList_loadG rfl 56 _ rfl _ rfl _ LO.out ?_))
    refine cd.mono ?_
    rintro e w7 ⟨rfl,hp7,hk7,hj7⟩
    have HP7 : Hid (Pr w1.heap.size w1 w7 pp a t1):=hp7
    have HK7 : Hid (Sk t1 (50 * (j + 1))):=hk7.mono (by omega)
    have HJ7 : Hid (Jr s t1):=hj7
    clear cd hp7 hk7 hj7 LO v3 v4
    by_cases hE : e1 = 0
    ·subst hE
     have HQ2 : Hid (P (j + 1) t1 ∧ Jv t1 ∧ Sk t1 (50 * (j + 1))):=⟨HSS.out rfl HJ7.out,HJ7.out.1,HK7.out⟩
     clear HSS HSB
     go_wp2_with fail
     go_roundg (on - (i + 1))
     case measure => omega
     case rel => exact ⟨i + 1,j + 1,t1,by rw [show ((i : Int) + 1) = ((i + 1 : Nat) : Int) by omega],by omega,by omega,by omega,by omega,HP7,HQ2⟩
    ·have heb : (e1 == 0) = false:=by simpa using hE
     obtain ⟨ud,ur⟩:=HJ7.out.2.back
     have hle:=HJ7.out.2.b.le
     have hlr:=HJ7.out.2.r.length_le
     have q1:=HP7.out.c1
     have cu:=HP7.out.uD s.d.pus.length hle (by have h1:=HK7.out.L; have h2:=HK7.out.P; omega)
     rw [ud] at cu
     go_wp2_with fail
     refine cu.mono ?_
     rintro e w8 ⟨hp8,rfl⟩
     clear cu q1
     have HP8 : Hid (Pr w1.heap.size w1 w8 pp a { t1 with d:=s.d }):=hp8
     have q0:=HP8.out.c0
     have qr:=HP8.out.sr
     have cu:=HP8.out.uR s.R.length hlr
     have ur' : ({ t1 with d:=s.d } : Sg).R.take s.R.length = s.R:=ur
     rw [ur'] at cu
     clear hp8
     go_wp2_with fail
     refine cu.mono ?_
     rintro e w9 ⟨hp9,rfl⟩
     clear cu q0 qr
     have HP9 : Hid (Pr w1.heap.size w1 w9 pp a { t1 with d:=s.d,R:=s.R }):=hp9
     have HQ2 : Hid (P (j + 1) { t1 with d:=s.d,R:=s.R } ∧ Jv { t1 with d:=s.d,R:=s.R } ∧ Sk { t1 with d:=s.d,R:=s.R } (50 * (j + 1))):=by
      refine ⟨HSB.out _ HJ7.out.2.l rfl rfl,HJ.out.1.back HJ7.out.2.l rfl,⟨HJ.out.1.c,?_,?_,?_,HK7.out.U⟩⟩
      ·have:=HJ.out.2.L; show s.d.L.length ≤ _; omega
      ·have:=HJ.out.2.P; show s.d.pus.length ≤ _; omega
      ·have:=HJ.out.2.R; show s.R.length ≤ _; omega
     clear hp9 HSS HSB ud ur ur' hle hlr
     go_wp2_with fail
     go_roundg (on - (i + 1))
     case measure => omega
     case rel => exact ⟨i + 1,j + 1,_,by rw [show ((i : Int) + 1) = ((i + 1 : Nat) : Int) by omega],by omega,by omega,by omega,by omega,HP9,HQ2⟩
   ·have hsk : ¬ (i < 40) ∨ (i < 40 ∧ ¬ wrap64 ((rp.size : Int) + (ro.size : Int)) ≤ 10000):=by
     by_cases h40 : i < 40
     ·exact .inr ⟨h40,fun h => hc ⟨h40,h⟩⟩
     ·exact .inl h40
    clear LO hc
    rcases hsk with h40 | ⟨h40,hsz⟩
    ·have h40I : ¬ (i : Int) < 40:=by omega
     go_wp2_with fail
     go_roundg (on - (i + 1))
     case measure => omega
     case rel => exact ⟨i + 1,j,s,by rw [show ((i : Int) + 1) = ((i + 1 : Nat) : Int) by omega],by omega,by omega,by omega,by omega,HP5,HQ⟩
    ·have h40I : (i : Int) < 40:=by omega
     go_wp2_with fail
     go_roundg (on - (i + 1))
     case measure => omega
     case rel => exact ⟨i + 1,j,s,by rw [show ((i : Int) + 1) = ((i + 1 : Nat) : Int) by omega],by omega,by omega,by omega,by omega,HP5,HQ⟩
  ·obtain rfl : on = i:=by omega
   have HF : Hid _:=HQ
   go_wp2_with fail
   go_ret
   exact ⟨pp,a,w1.heap.size,w1,j,s,rfl,HP.out,HB1.out,HB1.out.size,hj40,HQ.out.1,HQ.out.2.1,HQ.out.2.2.mono (by omega)⟩
end Go.Proofs.YtgajjphjkbnaeaaGreat
