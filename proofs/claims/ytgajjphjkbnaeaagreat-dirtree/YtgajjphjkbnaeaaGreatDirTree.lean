/- Proved: each name leads to an inode that is there, to a file as many as its links tell; no directory stands below itself -/
import Derived.Test.YtgajjphjkbnaeaaGreatQ56
import Derived.Test.YtgajjphjkbnaeaaGreatQ50
import Derived.Deep.RegionHeld3
import Derived.BigQuiet
import Derived.Deep.QuietTactic
import Derived.WalkSmall
import Derived.ProofKit
import Derived.OpenShut
import Derived.ShutString
import Derived.ChangeOld
import Derived.Below
import Derived.Carry
import Derived.Deep.CutRange
import Derived.Deep.CutBlock
import Derived.Deep.LoopGhost
namespace Go.Proofs.YtgajjphjkbnaeaaGreat.dirTree
open Go.ChangeShapes Go.WideShapes Go.ChangeAt Go.RowKit Go.Maps
open Go.ChangeMaps (open_string shut_string)
set_option linter.unusedVariables false
set_option maxHeartbeats 32000000
set_option maxRecDepth 100000
set_option linter.unusedSimpArgs false
theorem own : ownKnob Tryz.prog.godebug = none:=by kernel_rfl
theorem laidOut : laidOutB Tryz.prog = true:=by kernel_rfl
theorem pth_nil : pthS [] = ⟨#[47]⟩:=if_pos rfl
theorem walk (ao : Option Addr) (on oc : Nat) (os : List Rop) (w : World) (ho : RdZ 5 ropE w (.slice ao on oc) os) (hos : ∀ o ∈ os,o.old.size ≤ maxLen ∧ o.p.size ≤ maxLen) : Calls Tryz.prog 3 #[.slice ao on oc] w fun e w' => e = .returned (.bool true) ∧ Below w.heap.size w w':=by
 have HO : Hid (RdZ 5 ropE w (.slice ao on oc) os):=ho
 have HOS : Hid (∀ o ∈ os,o.old.size ≤ maxLen ∧ o.p.size ≤ maxLen):=hos
 clear ho hos
 go_enter Tryz.func3,Tryz.ntmps3
 go_wp2_with fail
 refine (dlive_any w).mono ?_
 rintro e w1 ⟨rfl,hb1⟩
 have cs:=script_any nr_sc w1 ao on oc os (HO.out.below hb1) HOS.out
 have HB1 : Hid (Below w.heap.size w w1):=hb1
 clear hb1
 go_wp2_with fail
 refine cs.mono ?_
 rintro e w2 ⟨pp,a,B,w0,j,s,rfl,hp,hb0,hBz,hj,hnr,hjv,hk⟩
 have HB0 : Hid (Below w.heap.size w w0 ∧ w.heap.size ≤ B):=⟨HB1.out.trans (hb0.mono HB1.out.size),Nat.le_trans HB1.out.size hBz⟩
 obtain ⟨es,tz⟩:=nr_tz hnr hj
 have hlen:=tz.len 7
 have ct:=tree_any tz s 6 B w0 w2 pp a s [] 1 2000 rfl rfl tz.nv.rt hp (Vs.refl s) (kp_of hjv hk) (by have : (trE s (6 + 1) [] 1).length ≤ 40:=hlen; omega)
 have ez : (([] : List ByteArray).length : Int) = 0:=rfl
 rw [pth_nil,ez] at ct
 have HTZ : Hid (Tz j s es):=tz
 obtain ⟨T,hT⟩ : ∃ T,trE s 7 [] 1 = T:=⟨_,rfl⟩
 have HT : Hid (trE s 7 [] 1 = T):=hT
 have hT6 : trE s (6 + 1) [] 1 = T:=hT
 rw [hT6] at ct
 rw [hT] at hlen
 clear cs hp hb0 hBz hj hnr hjv hk tz ez hT hT6
 go_wp2_with fail
 refine ct.mono ?_
 rintro e w3 ⟨v,s3,rfl,hp3,hv3,hk3,ho3,_⟩
 obtain ⟨ua,uc,rfl⟩:=row_slice ho3
 have HLB : Hid (∀ g,(Value.slice ua (trS T).length uc).ownBlock = some g → g < w3.heap.size):=fun g hg => by
  obtain ⟨_,cs,h⟩:=OwnS.ge ho3 g hg
  exact lt_of_row h
 rw [trS_len] at ho3 hk3 HLB ⊢
 obtain ⟨k,hkl⟩ : ∃ k,T.length = k:=⟨_,rfl⟩
 have HKL : Hid (T.length = k ∧ k ≤ 40):=⟨hkl,by omega⟩
 rw [hkl] at ho3 hk3 HLB ⊢
 have hO3 : OwnS w2.heap.size w3 (.slice ua k uc) (trS T):=ho3
 obtain ⟨M,hM⟩ : ∃ M,w3.heap.size = M:=⟨_,rfl⟩
 obtain ⟨wM,hwM⟩ : ∃ wM,w3.alloc (.map #[] 0) = wM:=⟨_,rfl⟩
 have hbM : Below w3.heap.size w3 wM:=by rw [← hwM]; exact (Below.refl _ w3).alloc (Nat.le_refl _) _
 have hsM : wM.heap.size = M + 1:=by rw [← hwM,← hM]; simp
 have hoM : wM.ownsMap Tryz.prog 30 (plainElem (H:=Unit) Tryz.prog 3) M 0 (.map []):=by rw [← hwM,← hM]; exact World.ownsMap_made _ _ _ _
 have HPM : Hid (PrY B w0 wM pp a s3 [M]):=hp3.y0.more (Z:=[M]) hbM (fun k hk => by rw [List.mem_singleton] at hk; omega)
 have HOM : Hid (OwnS w2.heap.size wM (.slice ua k uc) (trS T)):=OwnL.below hO3 hbM
 have HMM : Hid (wM.ownsMap Tryz.prog 30 (plainElem (H:=Unit) Tryz.prog 3) M 0 (.map [])):=hoM
 have HV3 : Hid (Vs s s3 ∧ DgP.Kp s s3 2540):=⟨hv3,DgP_ok.kmono hk3 (by have:=HKL.out.2; omega)⟩
 rw [hM] at HLB
 have hk40 : k ≤ 40:=HKL.out.2
 have hkI : (k : Int) ≤ 40:=by omega
 clear ct ho3 hp3 hv3 hk3 hO3 hbM hsM hoM hlen hkl
 have mm : (Instr.makeMap 29 none).run Tryz.prog w3 = .ok (.map (some w3.heap.size)) (w3.alloc (.map #[] 0)):=run_makeMap _ w3
 rw [hwM,hM] at mm
 clear hwM hM
 go_wp2_with fail
 clear mm
 go_loopg [31] k (fun kx s31 wr => ∃ i : Nat,s31 = .int .i64 i ∧ i ≤ k ∧ k - i ≤ kx ∧ Hid (∃ (s4 : Sg) (D : DataW Unit),PrY B w0 wr pp a s4 [M] ∧ Vs s s4 ∧ DgP.Kp s s4 (2540 + 6 * i) ∧ OwnS w2.heap.size wr (.slice ua k uc) (trS T) ∧ wr.ownsMap Tryz.prog 30 (plainElem (H:=Unit) Tryz.prog 3) M i D ∧ Cn D (teT (T.take i)) ∧ ∀ q ∈ T.take i,q.1.length ≤ 6))
 case atStart => exact ⟨0,rfl,Nat.zero_le _,by omega,s3,_,HPM.out,HV3.out.1,HV3.out.2,HOM.out,HMM.out,cn_nil,fun q hq => absurd hq List.not_mem_nil⟩
 case round =>
  obtain ⟨i,rfl,hin,hkx,HQ⟩:=hrel
  clear HPM HOM HMM HV3
  by_cases hlt : i < k
  ·obtain ⟨q,hx⟩ : ∃ q,T[i]? = some q:=⟨_,List.getElem?_eq_getElem (by have:=HKL.out.1; omega)⟩
   obtain ⟨s4,D,r1,r2,r3,r4,r5,r6,r7⟩:=HQ.out
   have hxs : (trS T)[i]? = some (gluS q.1):=by unfold trS; rw [List.getElem?_map,hx]; rfl
   obtain ⟨bq,oq,rfl,z0⟩:=s_cell (l:=trS T) (by
    have e : OwnS w2.heap.size wr (.slice ua k uc) (trS T):=r4
    exact rdZ_own str_len e) hxs
   obtain ⟨ms,_,_,e1,e2,e3,e4,e5,e6,e7⟩:=HTZ.out.way 7 (ns:=[]) (u:=1) rfl HTZ.out.nv.rt q (by rw [HT.out]; exact List.mem_of_getElem? hx)
   have hw : wyT s q.1 1 q.2.t:=by rw [e1]; exact wy_snoc.2 ⟨_,e2,e3,e4,e5,e6⟩
   have hpt : pthS q.1 = gluS q.1:=by rw [e1]; exact pth_snoc _ _
   have hbt:=dE_bd HTZ.out.nv.iv.d q.2.k q.2.x
   rw [e5] at hbt
   have HBT : Hid (0 ≤ q.2.t ∧ q.2.t ≤ 4294967295):=hbt
   have hl7 : q.1.length ≤ 7:=by simpa using e7
   have HFD : Hid ((q.1.length ≤ 6 → (drFind DgP s4 (gluS q.1)).2 = (q.2.t,0)) ∧ (¬ q.1.length ≤ 6 → (drFind DgP s4 (gluS q.1)).2 = (0,160))):=by
    refine ⟨fun h => ?_,fun h => ?_⟩
    ·rw [← hpt]; exact find_p HTZ.out.l HTZ.out.nv.iv.d r2 hw h
    ·rw [find_7 (wy_ok hw) (by omega)]
   have HSZ : Hid ((gluS q.1).size ≤ maxLen):=by
    have:=(pth_le (wy_ok hw) hl7).2
    unfold Hid maxLen
    omega
   have HTK : Hid (T.take (i + 1) = T.take i ++ [q]):=take_next hx
   have HK4 : Hid (DgP.Kp s (drFind DgP s4 (gluS q.1)).1 (2540 + 6 * (i + 1)) ∧ Vs s (drFind DgP s4 (gluS q.1)).1):=⟨drFind_kp DgP_ok r3 _,r2.trans (drFind_vs _ _)⟩
   have q0:=r1.c0
   have cc:=r1.fnd r3 (by omega) (gluS q.1) HSZ.out
   obtain ⟨t,ht⟩ : ∃ t,q.2.t = t:=⟨_,rfl⟩
   obtain ⟨Q,hQ⟩ : ∃ Q,gluS q.1 = Q:=⟨_,rfl⟩
   rw [ht] at HFD HBT
   rw [hQ] at HFD HK4 cc z0
   have HTQ : Hid (q.2.t = t):=ht
   have HPY : Hid (PrY B w0 wr pp a s4 [M]):=r1
   have HOR : Hid (OwnS w2.heap.size wr (.slice (some ⟨bq,oq,none⟩) k uc) (trS T)):=r4
   have HMR : Hid (wr.ownsMap Tryz.prog 30 (plainElem (H:=Unit) Tryz.prog 3) M i D):=r5
   have HCR : Hid (Cn D (teT (T.take i)) ∧ ∀ q ∈ T.take i,q.1.length ≤ 6):=⟨r6,r7⟩
   generalize drFind DgP s4 Q = F at *
   obtain ⟨s5,f2,f3⟩:=F
   change Sg at s5
   dsimp only at cc HK4 HFD
   have hiI : (i : Int) < (k : Int):=by omega
   have hib : (i : Int) + 1 ≤ 41:=by omega
   clear r1 r2 r3 r4 r5 r6 r7 e1 e2 e3 e4 e5 e6 e7 hw hpt hbt hl7 hx hxs ht hQ HSZ HQ
   go_wp2_with fail
   refine cc.mono ?_
   rintro e w5 ⟨hp5,rfl,hks5,hY5⟩
   have HP5 : Hid (PrY B w0 w5 pp a s5 [M]):=hp5
   have HO5 : Hid (OwnS w2.heap.size w5 (.slice (some ⟨bq,oq,none⟩) k uc) (trS T)):=OwnS.keepS HOR.out hks5
   have hown5 : w5.ownsMap Tryz.prog 30 (plainElem (H:=Unit) Tryz.prog 3) M i D:=mp_keepB HMR.out (hY5 M (by simp))
   have HF : Hid (Below w.heap.size w w5):=HB0.out.1.trans (hp5.bel.mono HB0.out.2)
   clear cc q0 z0 hp5 hks5 hY5 HPY HOR HMR
   by_cases h6 : q.1.length ≤ 6
   ·obtain ⟨e1,e2⟩ : f2 = t ∧ f3 = 0:=by have:=HFD.out.1 h6; simpa using this
    subst e1 e2
    have hkey:=key_u HBT.out.1 HBT.out.2
    have hstep:=HCR.out.1.step (hown5.tidy lawU) f2
    have hzero:=fun (c0 : Int) => HCR.out.1.look f2 (c:=c0)
    obtain ⟨c,hc⟩ : ∃ c,(teT (T.take i)).count f2 = c:=⟨_,rfl⟩
    rw [hc] at hstep hzero
    have hc40 : (c : Int) + 1 ≤ 41:=by
     have h1 : (teT (T.take i)).count f2 ≤ (teT (T.take i)).length:=List.count_le_length ..
     have h2 : (teT (T.take i)).length ≤ i:=by unfold teT; rw [List.length_map,List.length_take]; omega
     omega
    have hc0 : (0 : Int) ≤ (c : Int):=by omega
    have ecn : cntI (c + 1) = .lit (.int .i64 ((c : Int) + 1)):=by unfold cntI; rw [show ((c + 1 : Nat) : Int) = (c : Int) + 1 by omega]
    rw [ecn] at hstep
    have hwf : (Lit.int .i64 ((c : Int) + 1)).wf = true:=WalkArith.wf_i64 (by omega)
    have HST : Hid _:=hstep
    have HTE : Hid (teT (T.take (i + 1)) = teT (T.take i) ++ [f2] ∧ ∀ q ∈ T.take (i + 1),q.1.length ≤ 6):=by
     refine ⟨?_,fun q' hq' => ?_⟩
     ·rw [HTK.out]; unfold teT; rw [List.map_append,List.map_singleton,HTQ.out]
     ·rw [HTK.out] at hq'
      rcases List.mem_append.1 hq' with h | h
      ·exact HCR.out.2 q' h
      ·rw [List.mem_singleton] at h; rw [h]; exact h6
    clear hstep hc ecn HFD HCR
    go_wp2_with (first
     | (at_lookup; refine wpList_lookup_own_int _ rfl _ _ 29 rfl 30 3 .i64 lawU Tryz.underlying29 Tryz.underlying3 (zeroI _) M i _ rfl hown5 _ _ rfl hkey ?_; intro c0 hat0 hwc; obtain rfl:=hzero c0 hat0)
     | (at_mapUpdate; refine wpList_mapUpdate_own _ rfl _ _ _ 29 rfl 30 3 lawU Tryz.underlying29 _ M i _ rfl hown5 (by unfold maxLen; omega) _ _ _ rfl rfl hkey _ [] (plainElem_int Tryz.underlying3 hwf) ?_; intro w6 hown6 hgrow6)
     | fail)
    have HR : Hid (∃ (s4 : Sg) (D : DataW Unit),PrY B w0 w6 pp a s4 [M] ∧ Vs s s4 ∧ DgP.Kp s s4 (2540 + 6 * (i + 1)) ∧ OwnS w2.heap.size w6 (.slice (some ⟨bq,oq,none⟩) k uc) (trS T) ∧ w6.ownsMap Tryz.prog 30 (plainElem (H:=Unit) Tryz.prog 3) M (i + 1) D ∧ Cn D (teT (T.take (i + 1))) ∧ ∀ q ∈ T.take (i + 1),q.1.length ≤ 6) :=
     ⟨s5,_,HP5.out.sole (Z:=[M]) (fun k hk => hk) (sole_grown hgrow6),HK4.out.2,HK4.out.1,own_keep HO5.out hgrow6.size (fun q hq hl => hgrow6.block q hl (fun e => by have:=HLB.out q hq; simp only [Option.some.injEq] at e; omega)),hown6,by rw [HTE.out.1]; exact HST.out,HTE.out.2⟩
    clear hown6 hgrow6 hown5 HST
    go_roundg (k - (i + 1))
    case measure => omega
    case rel => exact ⟨i + 1,by rw [show ((i : Int) + 1) = ((i + 1 : Nat) : Int) by omega],by omega,by omega,HR⟩
   ·obtain ⟨e1,e2⟩ : f2 = 0 ∧ f3 = 160:=by have:=HFD.out.2 h6; simpa using this
    subst e1 e2
    clear hown5 HFD
    go_wp2_with fail
    first
     | exact ⟨rfl,HF.out⟩
     | (go_ret; exact ⟨rfl,HF.out⟩)
  ·obtain rfl : k = i:=by omega
   obtain ⟨s4,D,r1,r2,r3,r4,r5,r6,r7⟩:=HQ.out
   rw [List.take_of_length_le (by have:=HKL.out.1; omega)] at r6 r7
   have HC : Hid (Cn D (teT T) ∧ ∀ q ∈ T,q.1.length ≤ 6):=⟨r6,r7⟩
   have HPY : Hid (PrY B w0 wr pp a s4 [M] ∧ Vs s s4 ∧ DgP.Kp s s4 2780):=⟨r1,r2,DgP_ok.kmono r3 (by omega)⟩
   have hown:=r5
   have hs40 : Maps.size D ≤ 40:=by have:=r6.size; unfold teT at this; rw [List.length_map] at this; have:=HKL.out; omega
   clear r1 r2 r3 r4 r5 r6 r7 HQ
   go_wp2_with (first
    | (at_range; refine wpList_range_own _ rfl _ 29 rfl 30 3 lawU Tryz.underlying29 _ M k _ rfl hown ?_; intro w6 hrg0 hg0 hs0)
    | fail)
   obtain ⟨RB,hRB⟩ : ∃ RB,wr.heap.size = RB:=⟨_,rfl⟩
   rw [hRB] at hrg0 hs0 ⊢
   obtain ⟨Z0,hZ0⟩ : ∃ Z,Maps.size D = Z:=⟨_,rfl⟩
   rw [hZ0] at hrg0 hs40
   have HP6 : Hid (PrY B w0 w6 pp a s4 [RB,M]):=HPY.out.1.more (Z:=[RB]) ⟨hg0.os,hg0.tape,hg0.output,hg0.size,fun k hk => hg0.block k hk (by simp)⟩ (fun k hk => by rw [List.mem_singleton] at hk; omega)
   have HRG : Hid _:=hrg0
   clear hown hrg0 hg0 hs0 hRB hZ0
   go_frame
   go_loopg [12] Z0 (fun kx s12 wr => ∃ (left : Lit → Bool) (cnt : Nat),cnt ≤ kx ∧ cnt ≤ Z0 ∧ Hid (∃ s5 : Sg,wr.ranges Tryz.prog 30 (plainElem (H:=Unit) Tryz.prog 3) M RB k D left cnt ∧ (∀ kl,left kl = true → Maps.has D kl = true) ∧ PrY B w0 wr pp a s5 [RB,M] ∧ Vs s s5 ∧ DgP.Kp s s5 (2780 + 3 * (Z0 - cnt))))
   case atStart => exact ⟨_,Z0,Nat.le_refl _,Nat.le_refl _,s4,HRG.out,fun kl h => h,HP6.out,HPY.out.2.1,DgP_ok.kmono HPY.out.2.2 (by omega)⟩
   case round =>
    obtain ⟨left,cnt,hck,hcz,HQ⟩:=hrel
    obtain ⟨s5,hrg,hlf,hpy,hv5,hk5⟩:=HQ.out
    have HPR : Hid (PrY B w0 wr pp a s5 [RB,M] ∧ Vs s s5 ∧ DgP.Kp s s5 (2780 + 3 * (Z0 - cnt))):=⟨hpy,hv5,hk5⟩
    have HLF : Hid (∀ kl,left kl = true → Maps.has D kl = true):=hlf
    have HF : Hid (Below w.heap.size w wr):=HB0.out.1.trans (hpy.bel.mono HB0.out.2)
    clear hlf hpy hv5 hk5 HQ HP6 HRG HPY
    go_wp2_with (first
     | (at_next; refine wpList_next_ranges_ii _ rfl _ rfl 30 3 .u32 .i64 lawU Tryz.underlying30 Tryz.underlying3 M RB k _ _ _ rfl hrg ?_ ?_)
     | fail)
    ·intro hcz0 hl0
     clear hrg hl0
     go_wp2_with fail
     first
      | exact ⟨rfl,HF.out⟩
      | (go_ret; exact ⟨rfl,HF.out⟩)
    ·intro x c0 w7 cnt1 hwx hwc hlx hat1 hrg1 hlt1 hg1 hs1 hen
     obtain ⟨y,hy,hxy⟩:=HC.out.1.key _ (HLF.out _ hlx)
     obtain rfl : x = y:=ulit_inj hxy
     obtain rfl : c0 = ((teT T).count x : Nat):=by
      have h1:=HC.out.1.at_ x hy (.lit (.int .i64 0))
      have h2:=hat1 (.lit (.int .i64 0))
      have h3 : cntI ((teT T).count x) = .lit (.int .i64 c0):=h1.symm.trans h2
      unfold cntI at h3
      simp only [DataW.lit.injEq,Lit.int.injEq,true_and] at h3
      exact h3.symm
     obtain ⟨ik,im,iz,hf,hx0,hx1⟩:=HTZ.out.links (x:=x) (by rw [HT.out]; exact HC.out.2) (by rw [HT.out]; exact hy)
     rw [HT.out] at hf
     have HP7 : Hid (PrY B w0 w7 pp a s5 [RB,M]):=HPR.out.1.sole (Z:=[RB]) (fun k hk => by rw [List.mem_singleton] at hk; simp [hk]) (sole_grown hg1)
     have HRG : Hid (w7.ranges Tryz.prog 30 (plainElem (H:=Unit) Tryz.prog 3) M RB k D (fun z => left z && !z.sameKey (.int .u32 x)) cnt1):=hrg1
     have HLF1 : Hid (∀ kl,(left kl && !kl.sameKey (.int .u32 x)) = true → Maps.has D kl = true):=fun kl hkl => HLF.out kl (by simp only [Bool.and_eq_true] at hkl; exact hkl.1)
     have hst:=stat_ok (s:=s5) (ino:=x) (by rw [HPR.out.2.1.f]; exact hf)
     have HK8 : Hid (DgP.Kp s (statR s5 x).1 (2780 + 3 * (Z0 - cnt) + 3) ∧ Vs s (statR s5 x).1):=⟨stat_kp HPR.out.2.2 x,HPR.out.2.1.trans (stat_vs s5 x)⟩
     have cc:=HP7.out.stat HPR.out.2.2 (by omega) x hx0 hx1
     rw [hst] at cc
     have q0:=HP7.out.c0
     generalize (statR s5 x).1 = s6 at *
     obtain ⟨c,hc⟩ : ∃ c,(teT T).count x = c:=⟨_,rfl⟩
     rw [hc] at cc ⊢
     rw [hc] at hen
     clear hrg hrg1 hg1 hs1 hat1 hwc hf hst hy hxy hlx hc HPR
     go_wp2_with fail
     refine cc.mono ?_
     rintro e w8' ⟨hp8,rfl,hks8,hY8⟩
     have hi9:=heap_alloc_new w8' (.cells #[.int .i64 ik,.int .i64 im,.int .i64 c,.int .i64 iz] 41)
     have hb9:=bel1 w8' (.cells #[.int .i64 ik,.int .i64 im,.int .i64 c,.int .i64 iz] 41)
     obtain ⟨w8,hw9⟩ : ∃ w8,w8'.alloc (.cells #[.int .i64 ik,.int .i64 im,.int .i64 c,.int .i64 iz] 41) = w8:=⟨_,rfl⟩
     rw [hw9] at hi9 hb9
     have hrg8:=rg_keepB (w':=w8') HRG.out (hY8 M (by simp)) (hY8 RB (by simp))
     have hM8:=hp8.y M (by simp)
     have hR8:=hp8.y RB (by simp)
     have HR8 : Hid (w8.ranges Tryz.prog 30 (plainElem (H:=Unit) Tryz.prog 3) M RB k D (fun z => left z && !z.sameKey (.int .u32 x)) cnt1):=rg_keepB hrg8 (hb9.block _ hM8.1) (hb9.block _ hR8.1)
     have HP8 : Hid (PrY B w0 w8 pp a s6 [RB,M]):=hp8.below hb9
     have v2 : w8.cell? ⟨w8'.heap.size,2,none⟩ = some (.int .i64 c):=by rw [cell_of_row _ _ _ _ _ (0,0) hi9]; rfl
     clear cc q0 hp8 hks8 hY8 hi9 hb9 hrg8 hM8 hR8 HRG HP7 hen
     go_upto_region 20 with fail
     try rw [hw9]
     clear hw9
     have HR : Hid (∃ s5 : Sg,w8.ranges Tryz.prog 30 (plainElem (H:=Unit) Tryz.prog 3) M RB k D (fun z => left z && !z.sameKey (.int .u32 x)) cnt1 ∧ (∀ kl,(left kl && !kl.sameKey (.int .u32 x)) = true → Maps.has D kl = true) ∧ PrY B w0 w8 pp a s5 [RB,M] ∧ Vs s s5 ∧ DgP.Kp s s5 (2780 + 3 * (Z0 - cnt1))):=⟨s6,HR8.out,HLF1.out,HP8.out,HK8.out.2,DgP_ok.kmono HK8.out.1 (by omega)⟩
     go_wp2_with fail
     go_roundg cnt1
     case measure => omega
     case rel => exact ⟨_,cnt1,Nat.le_refl _,by omega,HR⟩
theorem lifted (os : Os) (started : os.Started) (H : Type) (enc : TypeId × Value → H) :
  ReturnsInHanded {} Tryz.checked os 3 .any (Rows.dirTreeSpec.pre6 enc Tryz.prog Tryz.f3 Rows.dirTreeRow.domain false) (Rows.dirTreeSpec.post enc Tryz.prog Tryz.f3 false true false false):=by
 refine returnsInHanded_of_change (C:=Tryz.checked) own started (by kernel_rfl) Tryz.func3
  (ChangeSpec.witness6 (enc:=enc) (C:=Tryz.checked) false ⟨#[],#[.slice none 0 0],[]⟩ 8 (by kernel_rfl) (by kernel_rfl) (by kernel_rfl) (by kernel_rfl)) ?_
 intro W base args ds gs before hval0 hW hcnd _
 have hval : ∀ (j : Nat) t v,Tryz.f3.params[j]? = some t → args[j]? = some v → Value.okWide Tryz.prog W .any base t v:=hval0
 have hW':=hW
 obtain ⟨p,q,hA0,hV,rfl,hfz,hnd⟩:=hW
 have hA : DataW.TrodAll enc Tryz.prog W 0 (fun _ => true) true Tryz.f3.params.toList args.toList ds p:=hA0
 rw [Tryz.params3] at hA hval
 obtain ⟨v0,vs0,d0,ds0,p0,q0,hargs,rfl,rfl,h0,r0⟩:=trodAll_cons hA
 obtain ⟨rfl,rfl,rfl⟩:=trodAll_nil r0
 obtain rfl : args = #[v0]:=by cases args; simp_all
 obtain ⟨rfl,rfl⟩:=trodVars_none hV
 obtain ⟨a0,len0,cap0,rfl⟩:=okWide_slice Tryz.underlying22 (hval 0 22 v0 rfl rfl)
 have k0:=h0
 have lt0 : ∀ x ∈ p0,x.block < W.heap.size:=by obtain ⟨m,hm⟩:=k0; exact DataW.trod_lt m _ _ _ hm
 obtain ⟨o0,w0,ws0⟩ : ∃ os : List Rop,RdZ 5 ropE W (.slice a0 len0 cap0) os ∧ ∀ o ∈ os,o.old.size ≤ maxLen ∧ o.p.size ≤ maxLen:=by
  obtain ⟨fuel,hf⟩:=h0
  exact rops_of hf
 clear hA0 hval0
 refine (walk a0 len0 cap0 o0 W w0 ws0).mono fun e W' ⟨he,bel⟩ => ?_
 subst he
 exact ⟨_,rfl,_,_,_,[],_,[],hW',trodAll_mk1 (shut_bool Tryz.underlying4 _),(trodAll_cons_mk (Below.trod laidOut (by kernel_rfl) (of_decide_eq_true (by kernel_rfl)) k0 bel lt0) trodAll_mk0),rfl,bel.frame _,fun h => by cases h⟩
theorem over : Rows.dirTreeRow.holds Tryz.pinned (OpenSpec.ofChange Rows.dirTreeSpec) :=
 OpenClaim.holds_of_wide 3 Tryz.f3 rfl rfl rfl rfl rfl rfl rfl ⟨rfl,rfl,rfl,rfl,rfl⟩ rfl rfl rfl rfl rfl (by kernel_rfl) Tryz.func3 (by kernel_rfl)
  (of_decide_eq_true (by kernel_rfl)) (by unfold Func.isWrapper; first | (rw [if_pos (by decide +kernel)]; kernel_rfl) | (rw [if_neg (by decide +kernel)]; exact ⟨rfl,rfl⟩))
  (fun os started H enc _ => lifted os started H enc)
end Go.Proofs.YtgajjphjkbnaeaaGreat.dirTree
namespace Go.Proofs.YtgajjphjkbnaeaaGreat
theorem dirTree_proved : Rows.DirTreeSaid:=dirTree.over
#print axioms dirTree_proved
end Go.Proofs.YtgajjphjkbnaeaaGreat
