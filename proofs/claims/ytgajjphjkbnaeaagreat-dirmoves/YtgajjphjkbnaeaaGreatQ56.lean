/- DrZ, DrEe: in one text. -/
import Derived.Test.YtgajjphjkbnaeaaGreatQ54
import Derived.Test.YtgajjphjkbnaeaaGreatQ55
import Derived.Test.YtgajjphjkbnaeaaGreatQ53
import Derived.Test.YtgajjphjkbnaeaaGreatQ16
import Derived.Deep.LoopGhost
namespace Go.Proofs.YtgajjphjkbnaeaaGreat
open Go.RowKit
set_option linter.unusedVariables false
set_option maxHeartbeats 32000000
set_option maxRecDepth 100000
set_option linter.unusedSimpArgs false
open Go.RowKit Go.Maps
open Go.RowKit Go.Maps
def KeepS (w w' : World) : Prop:=w.heap.size ≤ w'.heap.size ∧ ∀ (k : Nat) (cs : Array Value) (fr : Nat × Nat),w.heap[k]? = some (Obj.cells cs 9 fr) → w'.heap[k]? = some (Obj.cells cs 9 fr)
theorem KeepS.trans {w0 w1 w2 : World} (h : KeepS w0 w1) (k : KeepS w1 w2) : KeepS w0 w2:=⟨Nat.le_trans h.1 k.1,fun b cs fr hb => k.2 _ _ _ (h.2 _ _ _ hb)⟩
theorem KeepS.of_below {w w' : World} (hb : Below w.heap.size w w') : KeepS w w':=⟨hb.size,fun k cs fr hk => (hb.block k (lt_of_row hk)).trans hk⟩
abbrev OwnS (base : Nat) (w : World) (v : Value) (l : List ByteArray) : Prop:=OwnL base 9 1 strE w v l
theorem OwnS.ge {base : Nat} {w : World} {v : Value} {l : List ByteArray} (h : OwnS base w v l) : ∀ g,v.ownBlock = some g → base ≤ g ∧ ∃ cs,w.heap[g]? = some (Obj.cells cs 9 (0,0)):=by
 intro q hq
 obtain ⟨_,⟨e,_⟩ | ⟨g,cap,cur,e,h3,h4,h5⟩⟩:=h
 ·rw [e] at hq; cases hq
 ·rw [e] at hq; simp only [Value.ownBlock,Option.some.injEq] at hq; subst hq; exact ⟨h3,_,h4⟩
theorem OwnS.keepS {base : Nat} {w w' : World} {v : Value} {l : List ByteArray} (h : OwnS base w v l) (hk : KeepS w w') : OwnS base w' v l:=by
 have hg:=OwnS.ge h
 refine own_keep h hk.1 (fun q hq hlt => ?_)
 obtain ⟨_,cs,h4⟩:=hg q hq
 exact (hk.2 _ _ _ h4).trans h4.symm
theorem KeepS.grown {w0 w w' : World} {v : Value} (h : KeepS w0 w) (hg : w.grownBy w' v.ownBlock) (hv : ∀ g,v.ownBlock = some g → w0.heap.size ≤ g) : KeepS w0 w' :=
 ⟨Nat.le_trans h.1 hg.size,fun k cs fr hk => (hg.block k (Nat.lt_of_lt_of_le (lt_of_row hk) h.1) (fun e => by have:=hv k e.symm; have:=lt_of_row hk; omega)).trans (h.2 k cs fr hk)⟩
theorem OwnS.apart {base : Nat} {w w' : World} {v v2 : Value} {l : List ByteArray} (h : OwnS base w v l) (hg : w.grownBy w' v2.ownBlock) (hv : ∀ g,v.ownBlock = some g → ∀ g2,v2.ownBlock = some g2 → g < g2) : OwnS base w' v l :=
 own_keep h hg.size (fun q hq hlt => hg.block q hlt (fun e => by have:=hv q hq q e.symm; omega))
theorem Pr.soleS {B : Nat} {w0 w w' : World} {pp : Nat} {a : Sa} {s : Sg} (h : Pr B w0 w pp a s) {g : Nat} {cs : Array Value} (hg : w.heap[g]? = some (.cells cs 9 (0,0))) (hB : B ≤ g) (hs : Sole [g] w w') : Pr B w0 w' pp a s:=by
 obtain ⟨X,x,p1,p2⟩:=h.ex
 have tt : ∀ {k : Nat} {cs' : Array Value} {T' : TypeId} {fr' : Nat × Nat},w.heap[k]? = some (.cells cs' T' fr') → T' ≠ 9 → k ≠ g:=fun hk hT e => by subst e; rw [hg] at hk; simp only [Option.some.injEq,Obj.cells.injEq] at hk; exact hT hk.2.1.symm
 have hx : g ∉ X:=p2.other6 hg (by decide) (by decide) (by decide) (by decide) (by decide)
 refine ⟨⟨X,x,hs.row p1 (by rw [List.mem_singleton]; exact tt p1 (by decide)),p2.keep hs.size (fun k hk hc => hs.block k hk (fun e => ?_))⟩,h.bel.trans (hs.belowX (by intro k hk; rw [List.mem_singleton] at hk; omega) (Nat.le_trans h.B h.bel.size)),h.B⟩
 rw [List.mem_singleton] at e
 subst e
 obtain ⟨vd,vr,vu,h2,rfl⟩:=p2
 rcases hc with hc | hc | hc | hc | hc
 ·omega
 ·exact hx hc
 ·exact tt h2.sr (by decide) hc.symm
 ·exact tt h2.vw.row (by decide) hc.symm
 ·obtain ⟨ad,n,cap,hS,_⟩:=h2.so
  exact tt hS.row (by decide) hc.symm
theorem Pr.grownS {B : Nat} {w0 w w' : World} {pp : Nat} {a : Sa} {s : Sg} (h : Pr B w0 w pp a s) {base : Nat} {v : Value} {l : List ByteArray} (ho : OwnS base w v l) (hB : B ≤ base) (hg : w.grownBy w' v.ownBlock) : Pr B w0 w' pp a s:=by
 rcases ho.2 with ⟨rfl,_⟩ | ⟨g,cap,cur,rfl,hb,hh,_⟩
 ·exact h.below ⟨hg.os,hg.tape,hg.output,hg.size,fun k hk => hg.block k hk (by simp [Value.ownBlock])⟩
 ·exact h.soleS hh (Nat.le_trans hB hb) ⟨hg.os,hg.tape,hg.output,hg.size,fun k hk hn => hg.block k hk (fun e => hn (by simp [Value.ownBlock] at e; simp [e]))⟩
theorem Pr.callS {B : Nat} {w0 w : World} {pp : Nat} {a : Sa} {s s' : Sg} (h : Pr B w0 w pp a s) {f : FuncId} {args : Array Value} {K : Ending → World → Prop} (hc : ∀ X,SgIn B w a X s → Calls Tryz.prog f args w fun e w' => SgOut B w a X s' w' ∧ K e w') :
  Calls Tryz.prog f args w fun e w' => Pr B w0 w' pp a s' ∧ K e w' ∧ KeepS w w':=by
 obtain ⟨X,x,h1,h2⟩:=h.ex
 refine (hc X h2).mono ?_
 rintro e w' ⟨⟨X',k1,k2,k3⟩,hk⟩
 exact ⟨⟨⟨X',x,k2.row h1 (h2.not_pair h1),k1⟩,h.bel.trans (k2.belowX h2.ge (Nat.le_trans h.B h.bel.size)),h.B⟩,hk,k2.size,fun k cs fr hk => k2.row hk (DgP_ok.g.other (s:=s) h2 hk (by decide) (by decide) (by decide) (by decide) (by decide) (by decide))⟩
theorem Pr.fndS {B : Nat} {w0 w : World} {pp : Nat} {a : Sa} {sb s : Sg} (h : Pr B w0 w pp a s) {n : Nat} (k : DgP.Kp sb s n) (hn : n ≤ 3800) (p : ByteArray) (hp : p.size ≤ maxLen) :
  Calls Tryz.prog 9 #[.pointer (some ⟨a.s,0,none⟩),.string p] w fun e w' => Pr B w0 w' pp a (drFind DgP s p).1 ∧ e = .returned (.tuple #[.int .u32 (drFind DgP s p).2.1,.int .i64 (drFind DgP s p).2.2]) ∧ KeepS w w' :=
 h.callS (fun X hX => (find_g DgP_ok (s:=s) hX p hp k (by omega)).mono (fun e w' r => ⟨r.2.1,r.1⟩))
theorem Pr.lstS {B : Nat} {w0 w : World} {pp : Nat} {a : Sa} {sb s : Sg} (h : Pr B w0 w pp a s) {n : Nat} (k : DgP.Kp sb s n) (hn : n ≤ 3800) (p : ByteArray) (hp : p.size ≤ maxLen) :
  Calls Tryz.prog 19 #[.pointer (some ⟨a.s,0,none⟩),.string p] w fun e w' => Pr B w0 w' pp a (drList DgP s p).1 ∧ (∃ v,e = .returned (.tuple #[v,.int .i64 (drList DgP s p).2.2]) ∧ OwnS w.heap.size w' v (drList DgP s p).2.1) ∧ KeepS w w' :=
 h.callS (fun X hX => (list_g DgP_ok (s:=s) hX p hp k (by omega)).mono (fun e w' r => by
  obtain ⟨v,h1,h2,h3,h4⟩:=r
  exact ⟨h2,v,h1,h4⟩))
theorem Pr.kindS {B : Nat} {w0 w : World} {pp : Nat} {a : Sa} {s : Sg} (h : Pr B w0 w pp a s) (ino : Int) (h0 : 0 ≤ ino) (h1 : ino ≤ 4294967295) :
  Calls Tryz.prog 25 #[.pointer (some ⟨a.s,0,none⟩),.int .u32 ino] w fun e w' => Pr B w0 w' pp a s ∧ e = .returned (.tuple #[.int .i64 (fdR s ino).1.k,.int .i64 (fdR s ino).2]) ∧ KeepS w w':=by
 obtain ⟨X,x,p1,p2⟩:=h.ex
 refine (kind_in p2 ino h0 h1).mono ?_
 rintro e w' ⟨rfl,hb⟩
 exact ⟨h.below hb,rfl,KeepS.of_below hb⟩
def trS (L : List (List ByteArray × En)) : List ByteArray:=L.map fun q => gluS q.1
theorem trS_app (a b : List (List ByteArray × En)) : trS (a ++ b) = trS a ++ trS b:=by unfold trS; exact List.map_append
theorem trS_len (a : List (List ByteArray × En)) : (trS a).length = a.length:=by unfold trS; exact List.length_map ..
theorem pth_le {ns : List ByteArray} (h : ns.all nameOk = true) (hn : ns.length ≤ 7) : (pthS ns).size ≤ 64 ∧ (gluS ns).size ≤ 64:=by
 have:=gluS_le h
 unfold pthS
 split
 ·exact ⟨by decide,by omega⟩
 ·exact ⟨by omega,by omega⟩
theorem pth_is {ns : List ByteArray} (h : ns.all nameOk = true) : (pthS ns).toList = [47] → ns = []:=by
 intro he
 unfold pthS at he
 split at he
 ·assumption
 ·rename_i hne
  exfalso
  have hlen:=glue_len (l:=ns.map (fun n => n.data.toList)) (fun n hn => by
   obtain ⟨m,hm,rfl⟩:=List.mem_map.1 hn
   exact nmOk_size (List.all_eq_true.1 h m hm))
  rw [List.length_map] at hlen
  have hpos : 0 < ns.length:=List.length_pos_iff.2 hne
  have hgd : (gluS ns).toList = glue (ns.map (fun n => n.data.toList)):=by rw [ByteArray.toList_eq]; rfl
  have:=congrArg List.length he
  rw [hgd] at this
  simp at this
  omega
theorem trF_one {s : Sg} {f : Nat} {ns : List ByteArray} {u : Int} {x : ByteArray} (h : f = 0 ∨ (fdR s (dE s u x)).1.k = 1) : trF s f ns u x = [(ns ++ [x],⟨u,x,dE s u x⟩)]:=by
 unfold trF
 rcases h with h | h
 ·subst h
  split
  ·rfl
  ·rfl
 ·rw [if_neg (by simpa using h)]
theorem trF_dir {s : Sg} {f : Nat} {ns : List ByteArray} {u : Int} {x : ByteArray} (h : (fdR s (dE s u x)).1.k ≠ 1) : trF s f ns u x = (ns ++ [x],⟨u,x,dE s u x⟩) :: trE s f (ns ++ [x]) (dE s u x):=by
 unfold trF
 rw [if_pos h]
def TrOut (B : Nat) (w0 w : World) (pp : Nat) (a : Sa) (s0 sb : Sg) (n : Nat) (L : List ByteArray) (e : Ending) (w' : World) : Prop :=
 ∃ v s',e = .returned (.tuple #[v,.bool true]) ∧ Pr B w0 w' pp a s' ∧ Vs s0 s' ∧ DgP.Kp sb s' (n + 7 + 13 * L.length) ∧ OwnS w.heap.size w' v L ∧ KeepS w w'
def TreeP (s0 sb : Sg) (f : Nat) : Prop:=∀ (B : Nat) (w0 w : World) (pp : Nat) (a : Sa) (s : Sg) (ns : List ByteArray) (u : Int) (n : Nat),ns.length + f = 6 → wyT s0 ns 1 u → dD s0 u → Pr B w0 w pp a s → Vs s0 s → DgP.Kp sb s n → n + 7 + 13 * (trE s0 (f + 1) ns u).length ≤ 3800 →
 Calls Tryz.prog 8 #[.pointer (some ⟨pp,0,none⟩),.string (pthS ns),.int .i64 ns.length] w (TrOut B w0 w pp a s0 sb n (trS (trE s0 (f + 1) ns u)))
theorem tree_step {i0 : Nat} {s0 : Sg} {es : List En} (tz : Tz i0 s0 es) (sb : Sg) (f : Nat) (ih : ∀ g,f = g + 1 → TreeP s0 sb g) : TreeP s0 sb f:=by
 intro B w0 w pp a s ns u n hf hw hu hp hv hk hn
 have hok:=wy_ok hw
 have HNS : Hid (ns.all nameOk = true ∧ ns.length + f = 6 ∧ wyT s0 ns 1 u ∧ dD s0 u):=⟨hok,hf,hw,hu⟩
 have HIH : Hid (∀ g,f = g + 1 → TreeP s0 sb g):=ih
 have hlp:=list_p tz.l tz.nv.iv.d hv hw hu (by omega)
 have hlk:=drList_kp hk (pthS ns)
 have hsz:=pth_le hok (by omega)
 have q0:=hp.c0
 have cl:=hp.lstS hk (by omega) (pthS ns) (by have:=hsz.1; unfold maxLen; omega)
 have HB : Hid (B ≤ w.heap.size):=Nat.le_trans hp.B hp.bel.size
 have HN : Hid (n + 7 + 13 * (trE s0 (f + 1) ns u).length ≤ 3800):=hn
 have hdq : ns.length ≤ 6:=by omega
 have hcase : (((pthS ns).toList == [47]) = true ∧ (⟨#[]⟩ : ByteArray) = gluS ns) ∨ (((pthS ns).toList == [47]) = false ∧ pthS ns = gluS ns):=by
  by_cases he : ns = []
  ·subst he; exact .inl ⟨by rw [ByteArray.toList_eq]; rfl,rfl⟩
  ·exact .inr ⟨by rw [beq_eq_false_iff_ne]; exact fun q => he (pth_is hok q),if_neg he⟩
 have HGS : Hid ((gluS ns).size ≤ 64):=hsz.2
 obtain ⟨P,hP⟩ : ∃ P,pthS ns = P:=⟨_,rfl⟩
 obtain ⟨G,hG⟩ : ∃ G,gluS ns = G:=⟨_,rfl⟩
 have HG : Hid (gluS ns = G):=hG
 rw [hP] at cl hlp hlk hcase
 rw [hG] at hcase HGS
 rw [hP]
 generalize drList DgP s P = F at *
 obtain ⟨s1,nm,e1⟩:=F
 change Sg at s1
 dsimp only at cl hlp hlk
 obtain ⟨hle,hv1⟩:=hlp
 simp only [Prod.mk.injEq] at hle
 obtain ⟨rfl,rfl⟩:=hle
 obtain ⟨nm,hnm⟩ : ∃ nm,namesV s0.l s0.d u = nm:=⟨_,rfl⟩
 have HNM : Hid (namesV s0.l s0.d u = nm):=hnm
 rw [hnm] at cl
 have HT : Hid (trE s0 (f + 1) ns u = nm.flatMap (trF s0 f ns u)):=by unfold Hid; rw [trE_s,hnm]
 obtain ⟨d,hd⟩ : ∃ d : Nat,ns.length = d:=⟨_,rfl⟩
 have HD : Hid (ns.length = d):=hd
 rw [hd] at hdq ⊢
 have hdI : (d : Int) ≤ 6:=by omega
 have hd7 : ¬ (7 : Int) < (d : Int):=by omega
 have HV1 : Hid (Vs s0 s1 ∧ DgP.Kp sb s1 (n + 7)):=⟨hv1,hlk⟩
 have HTO : Hid (∀ W v s',Pr B w0 W pp a s' → Vs s0 s' → DgP.Kp sb s' (n + 7 + 13 * (trS (trE s0 (f + 1) ns u)).length) → OwnS w.heap.size W v (trS (trE s0 (f + 1) ns u)) → KeepS w W → TrOut B w0 w pp a s0 sb n (trS (trE s0 (f + 1) ns u)) (.returned (.tuple #[v,.bool true])) W):=fun W v s' h1 h2 h3 h4 h5 => ⟨v,s',rfl,h1,h2,h3,h4,h5⟩
 generalize hTR : TrOut B w0 w pp a s0 sb n (trS (trE s0 (f + 1) ns u)) = R at *
 clear hTR hp hv hk hn hw hu hok hf ih hlk hsz hP hG hv1 hnm hd
 obtain ⟨iE,hiE,hz0,hz1,hz2⟩:=info_parts info_str
 go_enter Tryz.func8,Tryz.ntmps8
 go_wp2_with fail
 refine cl.mono ?_
 rintro e w1 ⟨hp1,⟨v,rfl,ho⟩,hks⟩
 obtain ⟨ua,uc,rfl⟩:=row_slice ho
 obtain ⟨k,hkl⟩ : ∃ k,nm.length = k:=⟨_,rfl⟩
 have HKL : Hid (nm.length = k ∧ k ≤ maxLen):=⟨hkl,by
  obtain ⟨h1,h2,h3⟩:=(rdZ_own str_len ho).len
  omega⟩
 rw [hkl] at ho ⊢
 have HO1 : Hid (OwnS w.heap.size w1 (.slice ua k uc) nm):=ho
 have HP1 : Hid (Pr B w0 w1 pp a s1):=hp1
 have HK1 : Hid (KeepS w w1):=hks
 have HB1 : Hid (B ≤ w1.heap.size):=Nat.le_trans HB.out hks.1
 have HLB : Hid (∀ g,(Value.slice ua k uc).ownBlock = some g → g < w1.heap.size):=fun g hg => by
  obtain ⟨_,cs,h⟩:=OwnS.ge HO1.out g hg
  exact lt_of_row h
 have hkI : (k : Int) ≤ 9223372036854775807:=by have:=HKL.out.2; unfold maxLen at this; omega
 clear cl ho hp1 hks q0 hkl
 rcases hcase with ⟨hc1,hc2⟩ | ⟨hc1,hc2⟩
 case' inl => go_wp2_with fail
 case' inl => rw [hc2]
 case' inr => (have hc3:=hc2.symm; subst hc3)
 case' inr => go_wp2_with fail
 all_goals
  go_loopg [10,39] k (fun kx s10 s39 wr => ∃ (i : Nat) (ao : Option Addr) (no co : Nat),s10 = .slice ao no co ∧ s39 = .int .i64 i ∧ i ≤ k ∧ k - i ≤ kx ∧ Hid (∃ s2 : Sg,Pr B w0 wr pp a s2 ∧ Vs s0 s2 ∧ DgP.Kp sb s2 (n + 7 + 13 * ((nm.take i).flatMap (trF s0 f ns u)).length) ∧ OwnS w1.heap.size wr (.slice ao no co) (trS ((nm.take i).flatMap (trF s0 f ns u))) ∧ OwnS w.heap.size wr (.slice ua k uc) nm ∧ KeepS w wr ∧ w1.heap.size ≤ wr.heap.size))
  case atStart => exact ⟨0,none,0,0,rfl,rfl,Nat.zero_le _,by omega,s1,HP1.out,HV1.out.1,HV1.out.2,OwnL.nil _ _ _ _ _,HO1.out,HK1.out,Nat.le_refl _⟩
  case round =>
   obtain ⟨i,ao,no,co,rfl,rfl,hin,hkx,HQ⟩:=hrel
   by_cases hlt : i < k
   ·have hib : (i : Int) + 1 ≤ 9223372036854775807:=by omega
    obtain ⟨x,hx⟩ : ∃ x,nm[i]? = some x:=⟨_,List.getElem?_eq_getElem (by have:=HKL.out.1; omega)⟩
    obtain ⟨s2,r1,r2,r3,r4,r5,r6,r7⟩:=HQ.out
    have hxm : x ∈ namesV s0.l s0.d u:=by rw [HNM.out]; exact List.mem_of_getElem? hx
    obtain ⟨t1,t2,t3,t4,t5,t6⟩:=tz.nm HNS.out.2.2.1 HNS.out.2.2.2 hxm
    have HTT : Hid (nameOk x = true ∧ wyT s0 (ns ++ [x]) 1 (dE s0 u x) ∧ (fdR s0 (dE s0 u x)).2 = 0 ∧ 0 ≤ dE s0 u x ∧ dE s0 u x ≤ 4294967295):=⟨t1,t3,t4,t5,t6⟩
    obtain ⟨L,hL⟩ : ∃ L,(nm.take i).flatMap (trF s0 f ns u) = L:=⟨_,rfl⟩
    have HL1 : Hid ((nm.take (i + 1)).flatMap (trF s0 f ns u) = L ++ trF s0 f ns u x):=by
     unfold Hid
     rw [take_next hx,List.flatMap_append,hL]
     simp
    have HLL : Hid (n + 7 + 13 * (L.length + (trF s0 f ns u x).length) ≤ 3800):=by
     have e : nm.flatMap (trF s0 f ns u) = (L ++ trF s0 f ns u x) ++ (nm.drop (i + 1)).flatMap (trF s0 f ns u):=by
      rw [← HL1.out,← List.flatMap_append,List.take_append_drop]
     have h1:=HN.out
     rw [HT.out,e] at h1
     simp only [List.length_append] at h1
     unfold Hid
     omega
    have hF1 : 1 ≤ (trF s0 f ns u x).length:=by unfold trF; simp
    rw [hL] at r3 r4
    obtain ⟨bq,oq,rfl,z0⟩:=s_cell (rdZ_own str_len r5) hx
    obtain ⟨Q,hQ⟩ : ∃ Q,G ++ (⟨#[47]⟩ : ByteArray) ++ x = Q:=⟨_,rfl⟩
    have HQ2 : Hid (gluS (ns ++ [x]) = Q):=by unfold Hid; rw [gluS_snoc,HG.out]; exact hQ
    have HOK : Hid ((ns ++ [x]).all nameOk = true):=wy_ok t3
    have HQS : Hid (Q.size ≤ maxLen):=by
     have:=(pth_le HOK.out (by have:=HD.out; rw [List.length_append,List.length_singleton]; omega)).2
     rw [HQ2.out] at this
     unfold Hid maxLen
     omega
    have hGs : G.size ≤ 64:=HGS.out
    have hxs : x.size ≤ 8:=nm_size t1
    have hG1 : (G ++ (⟨#[47]⟩ : ByteArray)).size ≤ 65:=by rw [ByteArray.size_append]; have : (⟨#[47]⟩ : ByteArray).size = 1:=rfl; omega
    have HPR : Hid (Pr B w0 wr pp a s2):=r1
    have HVK : Hid (Vs s0 s2 ∧ DgP.Kp sb s2 (n + 7 + 13 * L.length)):=⟨r2,r3⟩
    have HOR : Hid (OwnS w1.heap.size wr (.slice ao no co) (trS L)):=r4
    have HNR : Hid (OwnS w.heap.size wr (.slice (some ⟨bq,oq,none⟩) k uc) nm):=r5
    have HKR : Hid (KeepS w wr ∧ w1.heap.size ≤ wr.heap.size):=⟨r6,r7⟩
    have HF1 : Hid _:=hF1
    clear r1 r2 r3 r4 r5 r6 r7 t1 t2 t3 t4 t5 t6 hx hxm hL hF1 HQ
    have hiI : (i : Int) < (k : Int):=by omega
    go_upto_region 11 with fail
    try rw [hQ]
    have hbl:=belP wr (.cells #[.string Q] 9)
    obtain ⟨w5,hw5⟩ : ∃ w5,wr.alloc (.cells #[.string Q] 9) = w5:=⟨_,rfl⟩
    have hrow : w5.heap[wr.heap.size]? = some (.cells #[.string Q] 9 (0,0)):=by rw [← hw5]; exact heap_alloc_new wr _
    have hr5 : RdZ 1 strE w5 (.slice (some ⟨wr.heap.size,0,none⟩) 1 1) [Q]:=s_rd hrow
    rw [hw5] at hbl
    have HO5 : OwnS w1.heap.size w5 (.slice ao no co) (trS L):=OwnL.below HOR.out hbl
    have HN5 : Hid (OwnS w.heap.size w5 (.slice (some ⟨bq,oq,none⟩) k uc) nm):=OwnL.below HNR.out hbl
    have HP5 : Hid (Pr B w0 w5 pp a s2):=HPR.out.below hbl
    have HK5 : Hid (KeepS w w5):=HKR.out.1.trans (KeepS.of_below hbl)
    have HS5 : Hid (w1.heap.size ≤ w5.heap.size):=Nat.le_trans HKR.out.2 hbl.size
    have HLQ : Hid ((trS L).length ≤ 3800):=by unfold Hid; rw [trS_len]; have:=HLL.out; omega
    clear hbl hrow z0 hG1 hGs hxs hQ HOR HNR HPR HKR
    go_wp2_with (refine wpList_append_E str_len str_one Tryz.underlying26 hiE hz0 hz1 hz2 rfl (by decide) (by decide) rfl _ _ rfl w1.heap.size _ _ rfl HO5 _ [Q] rfl hr5 (by have:=HLQ.out; simp only [List.length_singleton]; omega) HS5.out ?_; rintro v7 w7 ho7 hg7; have q7:=(HP5.out.grownS HO5 HB1.out hg7).c0)
    have HP7 : Hid (Pr B w0 w7 pp a s2):=HP5.out.grownS HO5 HB1.out hg7
    have HN7 : Hid (OwnS w.heap.size w7 (.slice (some ⟨bq,oq,none⟩) k uc) nm):=OwnS.apart HN5.out hg7 (fun g hg g2 hg2 => by have:=HLB.out g hg; have:=(OwnS.ge HO5 g2 hg2).1; omega)
    have HK7 : Hid (KeepS w w7):=HK5.out.grown hg7 (fun g hg => by have:=(OwnS.ge HO5 g hg).1; have:=HK1.out.1; omega)
    have HZ7 : Hid (w1.heap.size ≤ w7.heap.size):=Nat.le_trans HS5.out hg7.size
    obtain ⟨a7,c7,e7⟩:=row_slice ho7
    have HO7 : Hid (OwnS w1.heap.size w7 v7 (trS L ++ [Q])):=ho7
    obtain ⟨m7,hm7⟩ : ∃ m,(trS L ++ [Q]).length = m:=⟨_,rfl⟩
    rw [hm7] at e7
    clear hm7
    clear ho7 hg7 HO5 hr5 HP5 HN5 HK5 HS5 hw5
    subst e7
    have HFIN : Hid (∀ W s3 v,Pr B w0 W pp a s3 → Vs s0 s3 → DgP.Kp sb s3 (n + 7 + 13 * (L ++ trF s0 f ns u x).length) → OwnS w1.heap.size W v (trS (L ++ trF s0 f ns u x)) → OwnS w.heap.size W (.slice (some ⟨bq,oq,none⟩) k uc) nm → KeepS w W → w1.heap.size ≤ W.heap.size → ∃ s2 : Sg,Pr B w0 W pp a s2 ∧ Vs s0 s2 ∧ DgP.Kp sb s2 (n + 7 + 13 * ((nm.take (i + 1)).flatMap (trF s0 f ns u)).length) ∧ OwnS w1.heap.size W v (trS ((nm.take (i + 1)).flatMap (trF s0 f ns u))) ∧ OwnS w.heap.size W (.slice (some ⟨bq,oq,none⟩) k uc) nm ∧ KeepS w W ∧ w1.heap.size ≤ W.heap.size):=fun W s3 v h1 h2 h3 h4 h5 h6 h7 => by
     rw [HL1.out]
     exact ⟨s3,h1,h2,h3,h4,h5,h6,h7⟩
    clear HL1
    have q0:=HP7.out.c0
    have cc:=HP7.out.fndS HVK.out.2 (by have:=HLL.out; omega) Q HQS.out
    have HK8 : Hid (DgP.Kp sb (drFind DgP s2 Q).1 (n + 7 + 13 * L.length + 6) ∧ Vs s0 (drFind DgP s2 Q).1):=⟨drFind_kp DgP_ok HVK.out.2 Q,HVK.out.1.trans (drFind_vs s2 Q)⟩
    have HFD : Hid ((f = 0 → (drFind DgP s2 Q).2 = (0,160)) ∧ (f ≠ 0 → (drFind DgP s2 Q).2 = (dE s0 u x,0))):=by
     refine ⟨fun h0 => ?_,fun h0 => ?_⟩
     ·rw [← HQ2.out,find_7 HOK.out (by have:=HNS.out.2.1; rw [List.length_append,List.length_singleton]; omega)]
     ·rw [← HQ2.out,← pth_snoc]
      exact find_p tz.l tz.nv.iv.d HVK.out.1 HTT.out.2.1 (by have:=HNS.out.2.1; rw [List.length_append,List.length_singleton]; omega)
    generalize drFind DgP s2 Q = F at *
    obtain ⟨s3,f2,f3⟩:=F
    change Sg at s3
    dsimp only at cc HK8 HFD
    clear HVK HP7 q7
    go_wp2_with fail
    refine cc.mono ?_
    rintro e w8 ⟨hp8,rfl,hks8⟩
    have HP8 : Hid (Pr B w0 w8 pp a s3):=hp8
    have HO8 : Hid (OwnS w1.heap.size w8 (.slice a7 m7 c7) (trS L ++ [Q])):=OwnS.keepS HO7.out hks8
    have HN8 : Hid (OwnS w.heap.size w8 (.slice (some ⟨bq,oq,none⟩) k uc) nm):=OwnS.keepS HN7.out hks8
    have HW8 : Hid (KeepS w w8 ∧ w1.heap.size ≤ w8.heap.size):=⟨HK7.out.trans hks8,Nat.le_trans HZ7.out hks8.1⟩
    clear cc q0 hp8 hks8 HO7 HN7 HK7 HZ7
    by_cases hf0 : f = 0
    ·obtain ⟨e1,e2⟩ : f2 = 0 ∧ f3 = 160:=by have:=HFD.out.1 hf0; simpa using this
     subst e1 e2
     have e:=trF_one (s:=s0) (ns:=ns) (u:=u) (x:=x) (.inl hf0)
     have HR : Hid _:=HFIN.out w8 s3 (.slice a7 m7 c7) HP8.out HK8.out.2 (DgP_ok.kmono HK8.out.1 (by rw [List.length_append]; have:=HF1.out; omega)) (by rw [e,trS_app]; unfold trS; rw [List.map_singleton,HQ2.out]; exact HO8.out) HN8.out HW8.out.1 HW8.out.2
     clear HFIN HFD e HO8 HN8 HP8 HW8 HK8
     go_wp2_with fail
     go_roundg (k - (i + 1))
     case measure => omega
     case rel => exact ⟨i + 1,a7,_,c7,rfl,by rw [show ((i : Int) + 1) = ((i + 1 : Nat) : Int) by omega],by omega,by omega,HR⟩
    ·obtain ⟨e1,e2⟩ : f2 = dE s0 u x ∧ f3 = 0:=by have:=HFD.out.2 hf0; simpa using this
     subst e1 e2
     obtain ⟨t,ht⟩ : ∃ t,dE s0 u x = t:=⟨_,rfl⟩
     have HTE : Hid (dE s0 u x = t):=ht
     have HTU : Hid (wyT s0 (ns ++ [x]) 1 t ∧ (fdR s0 t).2 = 0 ∧ 0 ≤ t ∧ t ≤ 4294967295):=by unfold Hid; rw [← ht]; exact HTT.out.2
     rw [ht]
     have q0:=HP8.out.c0
     have cc:=HP8.out.kindS t HTU.out.2.2.1 HTU.out.2.2.2
     rw [HK8.out.2.f t,HTU.out.2.1] at cc
     have hkd:=tz.nv.kd HTU.out.2.1
     obtain ⟨kd,hkd2⟩ : ∃ kd,(fdR s0 t).1.k = kd:=⟨_,rfl⟩
     have HKD : Hid ((fdR s0 t).1.k = kd):=hkd2
     rw [hkd2] at cc hkd
     clear ht hkd2 HFD
     go_wp2_with fail
     refine cc.mono ?_
     rintro e w9 ⟨hp9,rfl,hks9⟩
     have HP9 : Hid (Pr B w0 w9 pp a s3):=hp9
     have HO9 : Hid (OwnS w1.heap.size w9 (.slice a7 m7 c7) (trS L ++ [Q])):=OwnS.keepS HO8.out hks9
     have HN9 : Hid (OwnS w.heap.size w9 (.slice (some ⟨bq,oq,none⟩) k uc) nm):=OwnS.keepS HN8.out hks9
     have HW9 : Hid (KeepS w w9 ∧ w1.heap.size ≤ w9.heap.size):=⟨HW8.out.1.trans hks9,Nat.le_trans HW8.out.2 hks9.1⟩
     clear cc q0 hp9 hks9 HO8 HN8 HW8 HP8
     rcases hkd with rfl | rfl
     ·have e:=trF_one (s:=s0) (f:=f) (ns:=ns) (u:=u) (x:=x) (.inr (by rw [HTE.out]; exact HKD.out))
      have HR : Hid _:=HFIN.out w9 s3 (.slice a7 m7 c7) HP9.out HK8.out.2 (DgP_ok.kmono HK8.out.1 (by rw [List.length_append]; have:=HF1.out; omega)) (by rw [e,trS_app]; unfold trS; rw [List.map_singleton,HQ2.out]; exact HO9.out) HN9.out HW9.out.1 HW9.out.2
      clear HFIN e HO9 HN9 HP9 HW9 HK8
      go_wp2_with fail
      go_roundg (k - (i + 1))
      case measure => omega
      case rel => exact ⟨i + 1,a7,_,c7,rfl,by rw [show ((i : Int) + 1) = ((i + 1 : Nat) : Int) by omega],by omega,by omega,HR⟩
     ·obtain ⟨g,hg⟩ : ∃ g,f = g + 1:=⟨f - 1,by omega⟩
      have hdd : dD s0 t:=⟨HTU.out.2.1,by rw [HKD.out]; decide⟩
      have e:=trF_dir (s:=s0) (f:=f) (ns:=ns) (u:=u) (x:=x) (by rw [HTE.out,HKD.out]; decide)
      rw [HTE.out,hg] at e
      have hlen : (trF s0 f ns u x).length = 1 + (trE s0 (g + 1) (ns ++ [x]) t).length:=by rw [hg,e,List.length_cons]; omega
      have ct:=HIH.out g hg B w0 w9 pp a s3 (ns ++ [x]) t (n + 7 + 13 * L.length + 6) (by have:=HNS.out.2.1; rw [List.length_append,List.length_singleton]; omega) HTU.out.1 hdd HP9.out HK8.out.2 HK8.out.1 (by have:=HLL.out; rw [hlen] at this; omega)
      rw [pth_snoc,HQ2.out,List.length_append,List.length_singleton,HD.out] at ct
      have hdI2 : ((d + 1 : Nat) : Int) = (d : Int) + 1:=by omega
      rw [hdI2] at ct
      clear hdI2
      obtain ⟨M,hM⟩ : ∃ M,trE s0 (g + 1) (ns ++ [x]) t = M:=⟨_,rfl⟩
      rw [hM] at ct e hlen
      have HE : Hid (trF s0 f ns u x = (ns ++ [x],⟨u,x,t⟩) :: M):=by unfold Hid; rw [hg]; exact e
      have HLM : Hid (n + 7 + 13 * (L.length + 1 + M.length) ≤ 3800):=by unfold Hid; have:=HLL.out; rw [hlen] at this; omega
      clear e hlen hM hdd hg
      go_wp2_with fail
      refine ct.mono ?_
      rintro e w10 ⟨v10,s4,rfl,hp,hv,hk,ho,hks⟩
      clear ct
      have HP10 : Hid (Pr B w0 w10 pp a s4 ∧ Vs s0 s4 ∧ DgP.Kp sb s4 (n + 7 + 13 * L.length + 6 + 7 + 13 * (trS M).length)):=⟨hp,hv,hk⟩
      have HO10 : OwnS w1.heap.size w10 (.slice a7 m7 c7) (trS L ++ [Q]):=OwnS.keepS HO9.out hks
      have HN10 : Hid (OwnS w.heap.size w10 (.slice (some ⟨bq,oq,none⟩) k uc) nm):=OwnS.keepS HN9.out hks
      have HW10 : Hid (KeepS w w10 ∧ w1.heap.size ≤ w10.heap.size):=⟨HW9.out.1.trans hks,Nat.le_trans HW9.out.2 hks.1⟩
      have hr10 : RdZ 1 strE w10 v10 (trS M):=rdZ_own str_len ho
      obtain ⟨a10,c10,e10⟩:=row_slice ho
      subst e10
      have HLT : Hid ((trS L ++ [Q]).length + (trS M).length ≤ 3800):=by unfold Hid; rw [List.length_append,trS_len,trS_len,List.length_singleton]; have:=HLM.out; omega
      clear hp hv hk ho hks HO9 HN9 HW9 HP9 HK8
      go_wp2_with (refine wpList_append_E str_len str_one Tryz.underlying26 hiE hz0 hz1 hz2 rfl (by decide) (by decide) rfl _ _ rfl w1.heap.size _ _ rfl HO10 _ (trS M) rfl hr10 (by have:=HLT.out; omega) HW10.out.2 ?_; rintro v11 w11 ho11 hg11)
      obtain ⟨a11,c11,e11⟩:=row_slice ho11
      have hlst : trS L ++ [Q] ++ trS M = trS (L ++ trF s0 f ns u x):=by
       rw [HE.out,trS_app]
       unfold trS
       rw [List.map_cons,HQ2.out,List.append_assoc]
       rfl
      have HR : Hid _:=HFIN.out w11 s4 v11 (HP10.out.1.grownS HO10 HB1.out hg11) HP10.out.2.1 (DgP_ok.kmono HP10.out.2.2 (by rw [trS_len,HE.out,List.length_append,List.length_cons]; omega)) (by rw [← hlst]; exact ho11) (OwnS.apart HN10.out hg11 (fun g hg g2 hg2 => by have:=HLB.out g hg; have:=(OwnS.ge HO10 g2 hg2).1; omega)) (HW10.out.1.grown hg11 (fun g hg => by have:=(OwnS.ge HO10 g hg).1; have:=HK1.out.1; omega)) (Nat.le_trans HW10.out.2 hg11.size)
      clear HFIN HE hlst ho11 hg11 HO10 hr10 HN10 HP10
      subst e11
      try go_wp2
      go_roundg (k - (i + 1))
      case measure => omega
      case rel => exact ⟨i + 1,a11,_,c11,rfl,by rw [show ((i : Int) + 1) = ((i + 1 : Nat) : Int) by omega],by omega,by omega,HR⟩
   ·obtain rfl : k = i:=by omega
    obtain ⟨s2,r1,r2,r3,r4,r5,r6,r7⟩:=HQ.out
    have e : (nm.take k).flatMap (trF s0 f ns u) = trE s0 (f + 1) ns u:=by rw [HT.out,List.take_of_length_le (by have:=HKL.out.1; omega)]
    rw [e] at r3 r4
    have HR : Hid _:=HTO.out wr (.slice ao no co) s2 r1 r2 (by rw [trS_len]; exact r3) (OwnL.mono r4 HK1.out.1) r6
    have hnl : ¬ (k : Int) < (k : Int):=by omega
    clear r1 r2 r3 r4 r5 r6 r7 e HQ
    go_wp2_with fail
    first
     | exact HR.out
     | (go_ret2; exact HR.out)
theorem tree_any {i : Nat} {s0 : Sg} {es : List En} (tz : Tz i s0 es) (sb : Sg) : ∀ f,TreeP s0 sb f
 | 0 => tree_step tz sb 0 (fun g h => by omega)
 | f + 1 => tree_step tz sb (f + 1) (fun g h => by
  obtain rfl : f = g:=by omega
  exact tree_any tz sb f)
end Go.Proofs.YtgajjphjkbnaeaaGreat
