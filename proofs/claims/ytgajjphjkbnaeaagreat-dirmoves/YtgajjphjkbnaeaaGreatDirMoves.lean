/- Proved: a name that was moved leads where it led; moved back all is as it was -/
import Derived.Test.YtgajjphjkbnaeaaGreatQ57
import Derived.Test.YtgajjphjkbnaeaaGreatQ50
import Derived.Deep.RegionHeld3
import Derived.BigQuiet
import Derived.Deep.QuietTactic
import Derived.WalkSmall
import Derived.ProofKit
import Derived.OpenShut
import Derived.ShutString
import Derived.ChangeOld
import Derived.Below
import Derived.Carry
import Derived.Deep.CutRange
import Derived.Deep.CutBlock
import Derived.Deep.LoopGhost
namespace Go.Proofs.YtgajjphjkbnaeaaGreat.dirMoves
open Go.ChangeShapes Go.WideShapes Go.ChangeAt Go.RowKit Go.Maps
open Go.ChangeMaps (open_string shut_string)
set_option linter.unusedVariables false
set_option maxHeartbeats 32000000
set_option maxRecDepth 100000
set_option linter.unusedSimpArgs false
theorem own : ownKnob Tryz.prog.godebug = none:=by kernel_rfl
theorem laidOut : laidOutB Tryz.prog = true:=by kernel_rfl
theorem pth_nil : pthS [] = ⟨#[47]⟩:=if_pos rfl
theorem walk (ao : Option Addr) (on oc : Nat) (os : List Rop) (so sp : ByteArray) (w : World) (ho : RdZ 5 ropE w (.slice ao on oc) os) (hos : ∀ o ∈ os,o.old.size ≤ maxLen ∧ o.p.size ≤ maxLen) (hso : so.size ≤ maxLen) (hsp : sp.size ≤ maxLen) : Calls Tryz.prog 4 #[.slice ao on oc,.string so,.string sp] w fun e w' => e = .returned (.bool true) ∧ Below w.heap.size w w':=by
 have HO : Hid (RdZ 5 ropE w (.slice ao on oc) os):=ho
 have HOS : Hid (∀ o ∈ os,o.old.size ≤ maxLen ∧ o.p.size ≤ maxLen):=hos
 have HSP : Hid (sp.size ≤ maxLen):=hsp
 have HSO : Hid (so.size ≤ maxLen):=hso
 clear ho hos hsp hso
 go_enter Tryz.func4,Tryz.ntmps4
 go_wp2_with fail
 refine (dlive_any w).mono ?_
 rintro e w1 ⟨rfl,hb1⟩
 have cs:=script_any nr_sc w1 ao on oc os (HO.out.below hb1) HOS.out
 have HB1 : Hid (Below w.heap.size w w1):=hb1
 clear hb1
 go_wp2_with fail
 refine cs.mono ?_
 rintro e w2 ⟨pp,a,B,w0,j,s,rfl,hp,hb0,hBz,hj,hnr,hjv,hk⟩
 have HB0 : Hid (Below w.heap.size w w0 ∧ w.heap.size ≤ B):=⟨HB1.out.trans (hb0.mono HB1.out.size),Nat.le_trans HB1.out.size hBz⟩
 have HP2 : Hid (Pr B w0 w2 pp a s):=hp
 by_cases hbig : 1000 < wrap64 ((sp.size : Int) + (so.size : Int))
 ·have HF : Hid (Below w.heap.size w w2):=HB0.out.1.trans (HP2.out.bel.mono HB0.out.2)
  clear cs hp hb0 hBz hj hnr hjv hk
  go_wp2
  go_ret
  exact ⟨rfl,HF.out⟩
 obtain ⟨es,tz⟩:=nr_tm hnr hj
 have hlen:=tz.len 7
 have ct:=tree_any tz s 6 B w0 w2 pp a s [] 1 2000 rfl rfl tz.nv.rt hp (Vs.refl s) (kp_of hjv hk) (by have : (trE s (6 + 1) [] 1).length ≤ 40:=hlen; omega)
 have ez : (([] : List ByteArray).length : Int) = 0:=rfl
 rw [pth_nil,ez] at ct
 have HTZ : Hid (Tz j s es ∧ Jv s):=⟨tz,hjv⟩
 obtain ⟨T,hT⟩ : ∃ T,trE s 7 [] 1 = T:=⟨_,rfl⟩
 have HT : Hid (trE s 7 [] 1 = T):=hT
 have hT6 : trE s (6 + 1) [] 1 = T:=hT
 rw [hT6] at ct
 rw [hT] at hlen
 have HTL : Hid (T.length ≤ 40):=hlen
 clear cs hp hb0 hBz hj hnr hjv hk tz ez hT hT6 HP2 hlen
 go_wp2_with fail
 refine ct.mono ?_
 rintro e w3 ⟨v,s3,rfl,hp3,hv3,hk3,ho3,_⟩
 have HO3 : Hid (OwnS w2.heap.size w3 v (trS T)):=ho3
 have HP3 : Hid (Pr B w0 w3 pp a s3):=hp3
 have HK3 : Hid (DgP.Kp s s3 2540):=DgP_ok.kmono hk3 (by rw [trS_len]; have:=HTL.out; omega)
 have HV3 : Hid (Vs s s3):=hv3
 clear ct hp3 hk3 ho3 hv3
 have q0:=HP3.out.c0
 have cc:=HP3.out.fndS HK3.out (by decide) so HSO.out
 have HK4 : Hid (DgP.Kp s (drFind DgP s3 so).1 2546):=drFind_kp DgP_ok HK3.out so
 have HV4 : Hid (Vs s (drFind DgP s3 so).1):=HV3.out.trans (drFind_vs s3 so)
 have HFE : Hid (∀ t : Int,(∀ s' : Sg,Vs s s' → (drFind DgP s' so).2 = (t,0)) → (drFind DgP s3 so).2 = (t,0)):=fun t h => h s3 HV3.out
 generalize drFind DgP s3 so = F at *
 obtain ⟨s4,f2,f3⟩:=F
 change Sg at s4
 dsimp only at cc HK4 HV4 HFE
 go_wp2_with fail
 refine cc.mono ?_
 rintro e w4 ⟨hp4,rfl,hks4⟩
 have HP4 : Hid (Pr B w0 w4 pp a s4):=hp4
 have HO4 : Hid (OwnS w2.heap.size w4 v (trS T)):=OwnS.keepS HO3.out hks4
 clear cc q0 hp4 hks4 HP3 HO3 HK3 HV3
 have q0:=HP4.out.c0
 have cc:=HP4.out.rnS HK4.out (by decide) so sp HSO.out HSP.out
 have HMV : Hid ((drRename DgP s4 so sp).2 = 0 → ∃ t : Int,(∀ s' : Sg,Vs s s' → (drFind DgP s' so).2 = (t,0)) ∧ ∀ s' : Sg,Vs (drRename DgP s4 so sp).1 s' → (drFind DgP s' sp).2 = (t,0) ∧ (drFind DgP s' so).2 = (0,190) ∧ (drRename DgP s' sp so).2 = 0 ∧ Tz j (drRename DgP s' sp so).1 es ∧ trE (drRename DgP s' sp so).1 7 [] 1 = T):=fun he => by
  rw [← HT.out]
  exact moves_two HTZ.out.1 HTZ.out.2 HV4.out he
 generalize drRename DgP s4 so sp = F at *
 obtain ⟨s5,g⟩:=F
 change Sg at s5
 dsimp only at cc HMV
 go_wp2_with fail
 refine cc.mono ?_
 rintro e w5 ⟨hp5,⟨rfl,hk5⟩,hks5⟩
 have HP5 : Hid (Pr B w0 w5 pp a s5):=hp5
 have HK5 : Hid (DgP.Kp s s5 2596):=hk5
 have HO5 : Hid (OwnS w2.heap.size w5 v (trS T)):=OwnS.keepS HO4.out hks5
 clear cc q0 hp5 hk5 hks5 HP4 HO4 HK4 HV4
 by_cases hg : g = 0
 case neg =>
  have hgb : (g != 0) = true:=by simpa using hg
  have HF : Hid (Below w.heap.size w w5):=HB0.out.1.trans (HP5.out.bel.mono HB0.out.2)
  clear HMV HFE
  go_wp2_with fail
  first
   | exact ⟨rfl,HF.out⟩
   | (go_ret; exact ⟨rfl,HF.out⟩)
 subst hg
 obtain ⟨t,h1,h2⟩:=HMV.out rfl
 obtain ⟨e1,e2⟩ : f2 = t ∧ f3 = 0:=by have:=HFE.out t h1; simpa using this
 subst e1 e2
 have HAL : Hid _:=h2
 clear HMV HFE h1 h2
 have q0:=HP5.out.c0
 have cc:=HP5.out.fndS HK5.out (by decide) sp HSP.out
 have HK6 : Hid (DgP.Kp s (drFind DgP s5 sp).1 2602):=drFind_kp DgP_ok HK5.out sp
 have HV6 : Hid (Vs s5 (drFind DgP s5 sp).1):=drFind_vs s5 sp
 have hfe:=(HAL.out s5 (Vs.refl s5)).1
 generalize drFind DgP s5 sp = F at *
 obtain ⟨s6,g2,g3⟩:=F
 change Sg at s6
 dsimp only at cc HK6 HV6 hfe
 obtain ⟨e1,e2⟩ : g2 = f2 ∧ g3 = 0:=by simpa using hfe
 subst e1 e2
 clear hfe
 go_wp2_with fail
 refine cc.mono ?_
 rintro e w6 ⟨hp6,rfl,hks6⟩
 have HP6 : Hid (Pr B w0 w6 pp a s6):=hp6
 have HO6 : Hid (OwnS w2.heap.size w6 v (trS T)):=OwnS.keepS HO5.out hks6
 clear cc q0 hp6 hks6 HP5 HO5 HK5
 have q0:=HP6.out.c0
 have cc:=HP6.out.fndS HK6.out (by decide) so HSO.out
 have HK7 : Hid (DgP.Kp s (drFind DgP s6 so).1 2608):=drFind_kp DgP_ok HK6.out so
 have HV7 : Hid (Vs s5 (drFind DgP s6 so).1):=HV6.out.trans (drFind_vs s6 so)
 have hfe:=(HAL.out s6 HV6.out).2.1
 generalize drFind DgP s6 so = F at *
 obtain ⟨s7,k2,k3⟩:=F
 change Sg at s7
 dsimp only at cc HK7 HV7 hfe
 obtain ⟨e1,e2⟩ : k2 = 0 ∧ k3 = 190:=by simpa using hfe
 subst e1 e2
 clear hfe
 go_wp2_with fail
 refine cc.mono ?_
 rintro e w7 ⟨hp7,rfl,hks7⟩
 have HP7 : Hid (Pr B w0 w7 pp a s7):=hp7
 have HO7 : Hid (OwnS w2.heap.size w7 v (trS T)):=OwnS.keepS HO6.out hks7
 clear cc q0 hp7 hks7 HP6 HO6 HK6 HV6
 have q0:=HP7.out.c0
 have cc:=HP7.out.rnS HK7.out (by decide) sp so HSP.out HSO.out
 have hal:=(HAL.out s7 HV7.out).2.2
 generalize drRename DgP s7 sp so = F at *
 obtain ⟨s8,m⟩:=F
 change Sg at s8
 dsimp only at cc hal
 obtain ⟨rfl,tz8,hT8⟩:=hal
 go_wp2_with fail
 refine cc.mono ?_
 rintro e w8 ⟨hp8,⟨rfl,hk8⟩,hks8⟩
 have HO8 : Hid (OwnS w2.heap.size w8 v (trS T)):=OwnS.keepS HO7.out hks8
 have ct:=tree_any tz8 s 6 B w0 w8 pp a s8 [] 1 2658 rfl rfl tz8.nv.rt hp8 (Vs.refl s8) hk8 (by have : (trE s8 (6 + 1) [] 1).length ≤ 40:=tz8.len 7; omega)
 have ez : (([] : List ByteArray).length : Int) = 0:=rfl
 have hT6 : trE s8 (6 + 1) [] 1 = T:=hT8
 rw [pth_nil,ez,hT6] at ct
 clear cc q0 hp8 hk8 hks8 HP7 HO7 HK7 HV7 HAL tz8 hT8 hT6 ez
 go_wp2_with fail
 refine ct.mono ?_
 rintro e w9 ⟨v9,s9,rfl,hp9,_,_,ho9,hks9⟩
 have hO9:=OwnS.keepS HO8.out hks9
 have hr1 : RdZ 1 strE w9 v (trS T):=rdZ_own str_len hO9
 have hr2 : RdZ 1 strE w9 v9 (trS T):=rdZ_own str_len ho9
 obtain ⟨ua,uc,rfl⟩:=row_slice hO9
 obtain ⟨ub,ud,rfl⟩:=row_slice ho9
 have cs:=same_any ua (trS T).length uc (trS T) hr1 ub (trS T).length ud (trS T) hr2 (by rw [trS_len]; have:=HTL.out; omega)
 rw [sameL_iff.2 rfl] at cs
 have HF9 : Hid (Below w.heap.size w w9):=HB0.out.1.trans (hp9.bel.mono HB0.out.2)
 obtain ⟨k,hk⟩ : ∃ k,(trS T).length = k:=⟨_,rfl⟩
 rw [hk] at cs ⊢
 clear ct hp9 ho9 hks9 hO9 hr1 hr2 HO8 hk
 go_wp2_with fail
 refine cs.mono ?_
 rintro e w10 ⟨rfl,hb10⟩
 have HF : Hid (Below w.heap.size w w10):=thenB HF9.out hb10
 go_wp2
 first
  | exact ⟨rfl,HF.out⟩
  | (go_ret; exact ⟨rfl,HF.out⟩)
theorem lifted (os : Os) (started : os.Started) (H : Type) (enc : TypeId × Value → H) :
  ReturnsInHanded {} Tryz.checked os 4 .any (Rows.dirMovesSpec.pre6 enc Tryz.prog Tryz.f4 Rows.dirMovesRow.domain false) (Rows.dirMovesSpec.post enc Tryz.prog Tryz.f4 false true false false):=by
 refine returnsInHanded_of_change (C:=Tryz.checked) own started (by kernel_rfl) Tryz.func4
  (ChangeSpec.witness6 (enc:=enc) (C:=Tryz.checked) false ⟨#[],#[.slice none 0 0,.string ByteArray.empty,.string ByteArray.empty],[]⟩ 8 (by kernel_rfl) (by kernel_rfl) (by kernel_rfl) (by kernel_rfl)) ?_
 intro W base args ds gs before hval0 hW hcnd _
 have hval : ∀ (j : Nat) t v,Tryz.f4.params[j]? = some t → args[j]? = some v → Value.okWide Tryz.prog W .any base t v:=hval0
 have hW':=hW
 obtain ⟨p,q,hA0,hV,rfl,hfz,hnd⟩:=hW
 have hA : DataW.TrodAll enc Tryz.prog W 0 (fun _ => true) true Tryz.f4.params.toList args.toList ds p:=hA0
 rw [Tryz.params4] at hA hval
 obtain ⟨v0,vs0,d0,ds0,p0,q0,hargs,rfl,rfl,h0,r0⟩:=trodAll_cons hA
 obtain ⟨v1,vs1,d1,ds1,p1,q1,rfl,rfl,rfl,h1,r1⟩:=trodAll_cons r0
 obtain ⟨v2,vs2,d2,ds2,p2,q2,rfl,rfl,rfl,h2,r2⟩:=trodAll_cons r1
 obtain ⟨rfl,rfl,rfl⟩:=trodAll_nil r2
 obtain rfl : args = #[v0,v1,v2]:=by cases args; simp_all
 obtain ⟨rfl,rfl⟩:=trodVars_none hV
 obtain ⟨a0,len0,cap0,rfl⟩:=okWide_slice Tryz.underlying22 (hval 0 22 v0 rfl rfl)
 have k0:=h0
 have lt0 : ∀ x ∈ p0,x.block < W.heap.size:=by obtain ⟨m,hm⟩:=k0; exact DataW.trod_lt m _ _ _ hm
 obtain ⟨o0,w0,ws0⟩ : ∃ os : List Rop,RdZ 5 ropE W (.slice a0 len0 cap0) os ∧ ∀ o ∈ os,o.old.size ≤ maxLen ∧ o.p.size ≤ maxLen:=by
  obtain ⟨fuel,hf⟩:=h0
  exact rops_of hf
 obtain ⟨a1,rfl,rfl,rfl,w1⟩:=open_string Tryz.underlying9 (hval 1 9 v1 rfl rfl) h1
 obtain ⟨a2,rfl,rfl,rfl,w2⟩:=open_string Tryz.underlying9 (hval 2 9 v2 rfl rfl) h2
 clear hA0 hval0
 refine (walk a0 len0 cap0 o0 a1 a2 W w0 ws0 w1 w2).mono fun e W' ⟨he,bel⟩ => ?_
 subst he
 exact ⟨_,rfl,_,_,_,[],_,[],hW',trodAll_mk1 (shut_bool Tryz.underlying4 _),(trodAll_cons_mk (Below.trod laidOut (by kernel_rfl) (of_decide_eq_true (by kernel_rfl)) k0 bel lt0) (trodAll_cons_mk (shut_string Tryz.underlying9 w1) (trodAll_cons_mk (shut_string Tryz.underlying9 w2) trodAll_mk0))),rfl,bel.frame _,fun h => by cases h⟩
theorem over : Rows.dirMovesRow.holds Tryz.pinned (OpenSpec.ofChange Rows.dirMovesSpec) :=
 OpenClaim.holds_of_wide 4 Tryz.f4 rfl rfl rfl rfl rfl rfl rfl ⟨rfl,rfl,rfl,rfl,rfl⟩ rfl rfl rfl rfl rfl (by kernel_rfl) Tryz.func4 (by kernel_rfl)
  (of_decide_eq_true (by kernel_rfl)) (by unfold Func.isWrapper; first | (rw [if_pos (by decide +kernel)]; kernel_rfl) | (rw [if_neg (by decide +kernel)]; exact ⟨rfl,rfl⟩))
  (fun os started H enc _ => lifted os started H enc)
end Go.Proofs.YtgajjphjkbnaeaaGreat.dirMoves
namespace Go.Proofs.YtgajjphjkbnaeaaGreat
theorem dirMoves_proved : Rows.DirMovesSaid:=dirMoves.over
#print axioms dirMoves_proved
end Go.Proofs.YtgajjphjkbnaeaaGreat
