/- DrH: in one text. -/
import Derived.Test.YtgajjphjkbnaeaaGreatQ36
namespace Go.Proofs.YtgajjphjkbnaeaaGreat
open Go.RowKit
set_option linter.unusedVariables false
set_option maxHeartbeats 32000000
set_option maxRecDepth 100000
set_option linter.unusedSimpArgs false
open Go.RowKit Go.Maps
theorem link_g {D : Sgd} (o : D.Ok) {B : Nat} {w : World} {a : Sa} {X : List Nat} {s0 s : D.G.S} {n : Nat} (h : D.G.In B w a X s) (old p : ByteArray) (hq : old.size ≤ maxLen) (hp : p.size ≤ maxLen) (hk : D.Kp s0 s n) (hn : n ≤ 3800) :
  Calls Tryz.prog 13 #[.pointer (some ⟨a.s,0,none⟩),.string old,.string p] w fun e w' => e = .returned (.int .i64 (drLink D s old p).2) ∧ D.G.Out B w a X (drLink D s old p).1 w' ∧ D.Kp s0 (drLink D s old p).1 (n + 50):=by
 have g:=o.g
 have cp:=pparent_any w p hp
 unfold ParOut at cp
 have HF : Hid (drLink D s old p = if parE p ≠ 0 then (s,parE p) else drLink0 D p (drFind D s old)):=rfl
 have HI : Hid (D.G.In B w a X s):=h
 have HK0 : Hid (D.Kp s0 s n):=hk
 have HQ : Hid (old.size ≤ maxLen ∧ p.size ≤ maxLen):=⟨hq,hp⟩
 generalize drLink D s old p = R at *
 generalize parE p = E at *
 clear h hk hq hp
 go_enter Tryz.func13,Tryz.ntmps13
 go_wp2_with fail
 refine cp.mono ?_
 rintro e w1 ⟨pa,pn,pc,rfl,_,hb1⟩
 clear cp
 have HB1 : Hid (Below w.heap.size w w1):=hb1
 by_cases hE : E = 0
 case neg =>
  have heb : (E != 0) = true:=by simpa using hE
  have HE : Hid (R = (s,E)):=by unfold Hid; rw [HF.out,if_pos hE]
  have HO : Hid (D.G.Out B w a X s w1):=g.out HI.out hb1
  clear HF hb1
  go_wp2
  go_ret
  exact ⟨by rw [HE.out]; first | done | rfl,by rw [HE.out]; exact HO.out,by rw [HE.out]; exact o.kmono HK0.out (by omega)⟩
 subst hE
 have HF1 : Hid (R = drLink0 D p (drFind D s old)):=by unfold Hid; rw [HF.out,if_neg (by simp)]
 clear HF
 have HF:=HF1
 clear HF1
 have cp:=find_g o (g.below HI.out hb1) old HQ.out.1 HK0.out (by omega)
 generalize drFind D s old = R0 at *
 obtain ⟨S1,t1,e1⟩:=R0
 dsimp only at cp HF
 clear hb1
 go_wp2_with fail
 refine cp.mono ?_
 rintro e w2 ⟨rfl,ho2,hk1,q0,q1⟩
 have HK1 : Hid (D.Kp s0 S1 (n + 8)):=hk1
 have HT : Hid (0 ≤ t1 ∧ t1 ≤ 4294967295):=⟨q0,q1⟩
 have ho3:=Sgt.Out.pre HB1.out ho2
 clear cp ho2 hk1 q0 q1
 by_cases hE : e1 = 0
 case neg =>
  have heb : (e1 != 0) = true:=by simpa using hE
  have HE : Hid (R = (S1,e1)):=by unfold Hid; rw [HF.out]; unfold drLink0; rw [if_pos hE]
  have HO : Hid (D.G.Out B w a X S1 w2):=ho3
  clear HF ho3
  go_wp2
  go_ret
  exact ⟨by rw [HE.out]; first | done | rfl,by rw [HE.out]; exact HO.out,by rw [HE.out]; exact o.kmono HK1.out (by omega)⟩
 subst hE
 have HF1 : Hid (R = drLink1 D t1 p (drKind D S1 t1 2 193)):=by unfold Hid; rw [HF.out]; unfold drLink0; rw [if_neg (by simp)]
 clear HF
 have HF:=HF1
 clear HF1
 obtain ⟨X1,hx1,hx2,hx3⟩:=ho3
 have HX2 : Hid (Sole X w w2):=hx2
 have HX3 : Hid (∀ k ∈ X1,k ∈ X ∨ w.heap.size ≤ k):=hx3
 have cr:=refuse_g o hx1 t1 HT.out.1 HT.out.2 2 193
 have HK2 : Hid (D.Kp s0 (drKind D S1 t1 2 193).1 (n + 8)):=drKind_kp o HK1.out t1 2 193
 generalize drKind D S1 t1 2 193 = KR at *
 obtain ⟨S2,e2⟩:=KR
 dsimp only at cr HF HK2
 clear hx1 hx2 hx3
 go_wp2_with fail
 refine cr.mono ?_
 rintro e w3 ⟨rfl,hoB⟩
 have ho3:=Sgt.Out.then HX2.out HX3.out hoB
 clear cr hoB HX2 HX3
 by_cases hE : e2 = 0
 case neg =>
  have heb : (e2 != 0) = true:=by simpa using hE
  have HE : Hid (R = (S2,e2)):=by unfold Hid; rw [HF.out]; unfold drLink1; rw [if_pos hE]
  have HO : Hid (D.G.Out B w a X S2 w3):=ho3
  clear HF ho3
  go_wp2
  go_ret
  exact ⟨by rw [HE.out]; first | done | rfl,by rw [HE.out]; exact HO.out,by rw [HE.out]; exact o.kmono HK2.out (by omega)⟩
 subst hE
 have HF1 : Hid (R = drLink2 D t1 (drFree D S2 p)):=by unfold Hid; rw [HF.out]; unfold drLink1; rw [if_neg (by simp)]
 clear HF
 have HF:=HF1
 clear HF1
 obtain ⟨X2,hx1,hx2,hx3⟩:=ho3
 have HX2 : Hid (Sole X w w3):=hx2
 have HX3 : Hid (∀ k ∈ X2,k ∈ X ∨ w.heap.size ≤ k):=hx3
 have cp:=free_g o hx1 p HQ.out.2 HK2.out.k (by omega)
 have HK3 : Hid (D.Kp s0 (drFree D S2 p).1 (n + 8 + 7)):=by unfold Hid; rw [drFree_st]; exact drSpot_kp o HK2.out p
 generalize drFree D S2 p = R0 at *
 obtain ⟨S3,⟨xi,xn,xt⟩,e3⟩:=R0
 dsimp only at cp HF HK3
 have hspcx : spC ⟨xi,xn,xt⟩ = #[.int .u32 xi,.string xn,.int .u32 xt]:=rfl
 rw [hspcx] at cp
 clear hx1 hx2 hx3
 go_wp2_with fail
 refine cp.mono ?_
 rintro e wA ⟨rfl,hoA,hok⟩
 have ho:=Sgt.Out.then HX2.out HX3.out hoA
 clear cp hoA HX2 HX3
 have hb3:=bel1 wA (.cells (spC ⟨xi,xn,xt⟩) 73)
 have hs3 : SptAt (wA.alloc (.cells (spC ⟨xi,xn,xt⟩) 73)) wA.heap.size ⟨xi,xn,xt⟩:=⟨heap_alloc_new wA _⟩
 obtain ⟨wB,hwB⟩ : ∃ w3,wA.alloc (.cells (spC ⟨xi,xn,xt⟩) 73) = w3:=⟨_,rfl⟩
 rw [hwB] at hb3 hs3
 rw [hspcx] at hwB
 have ho3 : D.G.Out B w a X S3 wB:=g.post ho hb3
 have HOKx : Hid (SptOk ⟨xi,xn,xt⟩):=hok
 have HBx : Hid (Below wA.heap.size wA wB):=hb3
 obtain ⟨gx,hgx⟩ : ∃ q,wA.heap.size = q:=⟨_,rfl⟩
 have HSx : Hid (SptAt wB gx ⟨xi,xn,xt⟩):=by unfold Hid; rw [← hgx]; exact hs3
 clear ho hok hb3 hs3
 go_upto_region 11 with fail
 try rw [hwB]
 try rw [hgx]
 clear hwB hgx
 by_cases hE : e3 = 0
 case neg =>
  have heb : (e3 != 0) = true:=by simpa using hE
  have HE : Hid (R = (S3,e3)):=by unfold Hid; rw [HF.out]; unfold drLink2; rw [if_pos hE]
  have HO : Hid (D.G.Out B w a X S3 wB):=ho3
  clear HF ho3
  go_wp2
  go_ret
  exact ⟨by rw [HE.out]; first | done | rfl,by rw [HE.out]; exact HO.out,by rw [HE.out]; exact o.kmono HK3.out (by omega)⟩
 subst hE
 have HF1 : Hid (R = drLink3 D t1 ⟨xi,xn,xt⟩ (D.lk S3 t1 1)):=by unfold Hid; rw [HF.out]; unfold drLink2; rw [if_neg (by simp)]
 clear HF
 have HF:=HF1
 clear HF1
 obtain ⟨X3,hx1,hx2,hx3⟩:=ho3
 have HX2 : Hid (Sole X w wB):=hx2
 have HX3 : Hid (∀ k ∈ X3,k ∈ X ∨ w.heap.size ≤ k):=hx3
 have cl:=o.lks hx1 t1 HT.out.1 HT.out.2 1 (by decide) (by decide) HK3.out.k (by omega)
 have HK4 : Hid (D.Kp s0 (D.lk S3 t1 1).1 (n + 8 + 7 + 30)):=⟨o.bL hx1 HK3.out.k _ _,o.jL hx1 HK3.out.j t1 HT.out.1 HT.out.2 _⟩
 have HNX : Hid (gx ∉ X3):=g.sp hx1 HSx.out
 generalize D.lk S3 t1 1 = LR at *
 obtain ⟨S4,ly,e4⟩:=LR
 dsimp only at cl HF HK4
 clear hx1 hx2 hx3
 go_wp2_with fail
 refine cl.mono ?_
 rintro e wE ⟨rfl,hoE⟩
 have HSC : Hid (SptAt wE gx ⟨xi,xn,xt⟩):=HSx.out.sole hoE.sole HNX.out
 have ho3:=Sgt.Out.then HX2.out HX3.out hoE
 clear cl hoE HX2 HX3 HSx HNX
 by_cases hE : e4 = 0
 case neg =>
  have heb : (e4 != 0) = true:=by simpa using hE
  have HE : Hid (R = (S4,e4)):=by unfold Hid; rw [HF.out]; unfold drLink3; rw [if_pos hE]
  have HO : Hid (D.G.Out B w a X S4 wE):=ho3
  clear HF ho3
  go_wp2
  go_ret
  exact ⟨by rw [HE.out]; first | done | rfl,by rw [HE.out]; exact HO.out,by rw [HE.out]; exact o.kmono HK4.out (by omega)⟩
 subst hE
 have HF1 : Hid (R = drSet D S4 ⟨xi,xn,xt⟩ t1):=by unfold Hid; rw [HF.out]; unfold drLink3; rw [if_neg (by simp)]
 clear HF
 have HF:=HF1
 clear HF1
 obtain ⟨X4,hx1,hx2,hx3⟩:=ho3
 have HX2 : Hid (Sole X w wE):=hx2
 have HX3 : Hid (∀ k ∈ X4,k ∈ X ∨ w.heap.size ≤ k):=hx3
 have cs:=set_g o hx1 ⟨xi,xn,xt⟩ HOKx.out t1 HT.out.1 HT.out.2 HK4.out (by omega)
 have LD : Hid _:=HSC.out.load
 generalize drSet D S4 ⟨xi,xn,xt⟩ t1 = ST at *
 obtain ⟨S5,e5⟩:=ST
 dsimp only at cs HF
 rw [hspcx] at cs LD
 clear hx1 hx2 hx3
 go_wp2_with (first | (refine wpList_loadG rfl 73 _ rfl _ rfl _ LD.out ?_))
 refine cs.mono ?_
 rintro e wF ⟨rfl,hoD,hkD⟩
 have HO : Hid (D.G.Out B w a X S5 wF ∧ D.Kp s0 S5 (n + 8 + 7 + 30 + 2)):=⟨Sgt.Out.then HX2.out HX3.out hoD,hkD⟩
 have HE : Hid (R = (S5,e5)):=HF.out
 clear cs hoD hkD HX2 HX3
 go_wp2
 go_ret
 exact ⟨by rw [HE.out]; first | done | rfl,by rw [HE.out]; exact HO.out.1,by rw [HE.out]; exact o.kmono HO.out.2 (by omega)⟩
def sbE (old p : ByteArray) : Bool × Int:=if parE old ≠ 0 then (false,parE old) else if parE p ≠ 0 then (false,parE p) else (drBel old p,0)
theorem par_path {p : ByteArray} (h : parE p = 0) : pathE p = 0:=by
 unfold parE at h
 split at h
 ·rename_i h2; exact h2.1
 ·exact absurd h (by decide)
theorem sb_any (w : World) (old p : ByteArray) (hq : old.size ≤ maxLen) (hp : p.size ≤ maxLen) : Calls Tryz.prog 30 #[.string old,.string p] w fun e w' => e = .returned (.tuple #[.bool (sbE old p).1,.int .i64 (sbE old p).2]) ∧ Below w.heap.size w w':=by
 have HQ : Hid (old.size ≤ maxLen ∧ p.size ≤ maxLen):=⟨hq,hp⟩
 have HF : Hid (sbE old p = if parE old ≠ 0 then (false,parE old) else if parE p ≠ 0 then (false,parE p) else (drBel old p,0)):=rfl
 generalize sbE old p = R at *
 clear hq hp
 go_enter Tryz.func30,Tryz.ntmps30
 go_wp2
 go_loopg [18] 2 (fun kx s18 wr => ∃ (i : Int) (j : Nat),s18 = .int .i64 i ∧ ((i = 0 ∧ j = 2) ∨ (i = 1 ∧ j = 1) ∨ (i = 2 ∧ j = 0)) ∧ j ≤ kx ∧ Hid (Below w.heap.size w wr) ∧ Hid ((j ≤ 1 → parE old = 0) ∧ (j ≤ 0 → parE p = 0)))
 case atStart => exact ⟨0,2,rfl,.inl ⟨rfl,rfl⟩,by omega,Below.refl _ _,⟨fun h => absurd h (by omega),fun h => absurd h (by omega)⟩⟩
 case round =>
  obtain ⟨i,j,rfl,hin,hkx,HW,HP⟩:=hrel
  rcases hin with ⟨rfl,rfl⟩ | ⟨rfl,rfl⟩ | ⟨rfl,rfl⟩
  ·have i0 : ∀ w,(Instr.index 134 (.agg #[.string old,.string p]) (.int .i64 0)).run Tryz.prog w = .ok (.string old) w:=fun _ => by kernel_rfl
   have cp:=pparent_any wr old HQ.out.1
   unfold ParOut at cp
   obtain ⟨E,hE0⟩ : ∃ E,parE old = E:=⟨_,rfl⟩
   rw [hE0] at cp
   have HE0 : Hid (parE old = E):=hE0
   clear hE0
   go_wp2_with fail
   refine cp.mono ?_
   rintro e w1 ⟨pa,pn,pc,rfl,_,hb1⟩
   have HB1 : Hid (Below w.heap.size w w1):=thenB HW.out hb1
   clear cp hb1
   by_cases hE : E = 0
   ·subst hE
    go_wp2
    go_roundg 1
    case measure => omega
    case rel => exact ⟨1,1,rfl,.inr (.inl ⟨rfl,rfl⟩),by omega,HB1,⟨fun _ => HE0.out,fun h => absurd h (by omega)⟩⟩
   ·have heb : (E != 0) = true:=by simpa using hE
    have HE : Hid (R = (false,E)):=by unfold Hid; rw [HF.out,HE0.out,if_pos hE]
    clear HF
    go_wp2
    go_ret2
    exact ⟨by rw [HE.out]; first | done | rfl,HB1.out⟩
  ·have i1 : ∀ w,(Instr.index 134 (.agg #[.string old,.string p]) (.int .i64 1)).run Tryz.prog w = .ok (.string p) w:=fun _ => by kernel_rfl
   have cp:=pparent_any wr p HQ.out.2
   unfold ParOut at cp
   obtain ⟨E,hE0⟩ : ∃ E,parE p = E:=⟨_,rfl⟩
   rw [hE0] at cp
   have HE0 : Hid (parE p = E):=hE0
   clear hE0
   go_wp2_with fail
   refine cp.mono ?_
   rintro e w1 ⟨pa,pn,pc,rfl,_,hb1⟩
   have HB1 : Hid (Below w.heap.size w w1):=thenB HW.out hb1
   clear cp hb1
   by_cases hE : E = 0
   ·subst hE
    go_wp2
    go_roundg 0
    case measure => omega
    case rel => exact ⟨2,0,rfl,.inr (.inr ⟨rfl,rfl⟩),by omega,HB1,⟨fun _ => HP.out.1 (by omega),fun _ => HE0.out⟩⟩
   ·have heb : (E != 0) = true:=by simpa using hE
    have HE : Hid (R = (false,E)):=by unfold Hid; rw [HF.out,if_neg (fun h => h (HP.out.1 (by omega))),HE0.out,if_pos hE]
    clear HF
    go_wp2
    go_ret2
    exact ⟨by rw [HE.out]; first | done | rfl,HB1.out⟩
  ·have HE : Hid (R = (drBel old p,0)):=by unfold Hid; rw [HF.out,if_neg (fun h => h (HP.out.1 (by omega))),if_neg (fun h => h (HP.out.2 (by omega)))]
   have h6:=(path_ok (par_path (HP.out.1 (by omega)))).2
   have HL6 : Hid ((pathL old).length ≤ 6):=h6
   have HBL : Hid (drBel old p = underB (pathL old) (pathL p)):=rfl
   clear HF h6
   have cp:=psplit_any wr old HQ.out.1
   unfold SpOut at cp
   go_wp2_with fail
   refine cp.mono ?_
   rintro e w1 ⟨pa,pn,pc,rfl,hf1,hb1⟩
   have HB1 : Hid (Below w.heap.size w w1):=thenB HW.out hb1
   clear cp hb1
   have cp:=psplit_any w1 p HQ.out.2
   unfold SpOut at cp
   go_wp2_with fail
   refine cp.mono ?_
   rintro e w2 ⟨qa,qn,qc,rfl,hf2,hb2⟩
   have HB2 : Hid (Below w.heap.size w w2):=thenB HB1.out hb2
   have hf1':=hf1.below hb2
   clear cp hb2 hf1
   have cu:=punder_any pa pn pc (pathL old) hf1'.1 qa qn qc (pathL p) hf2.1 (by have h1:=hf1'.1.len.1; have h2:=HL6.out; omega)
   rw [← HBL.out] at cu
   clear hf1' hf2
   go_wp2_with fail
   refine cu.mono ?_
   rintro e w3 ⟨rfl,hb3⟩
   have HB3 : Hid (Below w.heap.size w w3):=thenB HB2.out hb3
   clear cu hb3
   go_wp2
   go_ret2
   exact ⟨by rw [HE.out]; first | done | rfl,HB3.out⟩
theorem rename_g {D : Sgd} (o : D.Ok) {B : Nat} {w : World} {a : Sa} {X : List Nat} {s0 s : D.G.S} {n : Nat} (h : D.G.In B w a X s) (old p : ByteArray) (hq : old.size ≤ maxLen) (hp : p.size ≤ maxLen) (hk : D.Kp s0 s n) (hn : n ≤ 3800) :
  Calls Tryz.prog 11 #[.pointer (some ⟨a.s,0,none⟩),.string old,.string p] w fun e w' => e = .returned (.int .i64 (drRename D s old p).2) ∧ D.G.Out B w a X (drRename D s old p).1 w' ∧ D.Kp s0 (drRename D s old p).1 (n + 50):=by
 have g:=o.g
 have cp:=sb_any w old p hq hp
 have HF : Hid (drRename D s old p = if (sbE old p).2 ≠ 0 then (s,(sbE old p).2) else drRen1 D old p (drTaken D s old)):=by
  unfold Hid drRename sbE
  by_cases h1 : parE old = 0
  ·by_cases h2 : parE p = 0
   ·simp [h1,h2]
   ·simp [h1,h2]
  ·simp [h1]
 have HBB : Hid ((sbE old p).2 = 0 → (sbE old p).1 = drBel old p):=by
  unfold Hid sbE
  by_cases h1 : parE old = 0
  ·by_cases h2 : parE p = 0
   ·simp [h1,h2]
   ·simp [h1,h2]
  ·simp [h1]
 have HI : Hid (D.G.In B w a X s):=h
 have HK0 : Hid (D.Kp s0 s n):=hk
 have HQ : Hid (old.size ≤ maxLen ∧ p.size ≤ maxLen):=⟨hq,hp⟩
 generalize drRename D s old p = R at *
 generalize sbE old p = SB at *
 obtain ⟨b0,E⟩:=SB
 dsimp only at cp HF HBB
 clear h hk hq hp
 go_enter Tryz.func11,Tryz.ntmps11
 go_wp2_with fail
 refine cp.mono ?_
 rintro e w1 ⟨rfl,hb1⟩
 clear cp
 have HB1 : Hid (Below w.heap.size w w1):=hb1
 by_cases hE : E = 0
 case neg =>
  have heb : (E != 0) = true:=by simpa using hE
  have HE : Hid (R = (s,E)):=by unfold Hid; rw [HF.out,if_pos hE]
  have HO : Hid (D.G.Out B w a X s w1):=g.out HI.out hb1
  clear HF hb1
  go_wp2
  go_ret
  exact ⟨by rw [HE.out]; first | done | rfl,by rw [HE.out]; exact HO.out,by rw [HE.out]; exact o.kmono HK0.out (by omega)⟩
 subst hE
 have HF1 : Hid (R = drRen1 D old p (drTaken D s old)):=by unfold Hid; rw [HF.out,if_neg (by simp)]
 clear HF
 have HF:=HF1
 clear HF1
 have HB0 : Hid (b0 = drBel old p):=HBB.out rfl
 have cp:=taken_g o (g.below HI.out hb1) old HQ.out.1 HK0.out.k (by omega)
 have HK1 : Hid (D.Kp s0 (drTaken D s old).1 (n + 7)):=by unfold Hid; rw [drTaken_st]; exact drSpot_kp o HK0.out old
 generalize drTaken D s old = R0 at *
 obtain ⟨S1,⟨xi,xn,xt⟩,e1⟩:=R0
 dsimp only at cp HF HK1
 have hspcx : spC ⟨xi,xn,xt⟩ = #[.int .u32 xi,.string xn,.int .u32 xt]:=rfl
 rw [hspcx] at cp
 clear hb1 HBB
 go_wp2_with fail
 refine cp.mono ?_
 rintro e wA ⟨rfl,hoA,hok⟩
 have ho:=Sgt.Out.pre HB1.out hoA
 clear cp hoA
 have hb3:=bel1 wA (.cells (spC ⟨xi,xn,xt⟩) 73)
 have hs3 : SptAt (wA.alloc (.cells (spC ⟨xi,xn,xt⟩) 73)) wA.heap.size ⟨xi,xn,xt⟩:=⟨heap_alloc_new wA _⟩
 obtain ⟨wB,hwB⟩ : ∃ w3,wA.alloc (.cells (spC ⟨xi,xn,xt⟩) 73) = w3:=⟨_,rfl⟩
 rw [hwB] at hb3 hs3
 rw [hspcx] at hwB
 have ho3 : D.G.Out B w a X S1 wB:=g.post ho hb3
 have HOKx : Hid (SptOk ⟨xi,xn,xt⟩):=hok
 have HBx : Hid (Below wA.heap.size wA wB):=hb3
 obtain ⟨gx,hgx⟩ : ∃ q,wA.heap.size = q:=⟨_,rfl⟩
 have HSx : Hid (SptAt wB gx ⟨xi,xn,xt⟩):=by unfold Hid; rw [← hgx]; exact hs3
 clear ho hok hb3 hs3
 go_upto_region 5 with fail
 try rw [hwB]
 try rw [hgx]
 clear hwB hgx
 by_cases hE : e1 = 0
 case neg =>
  have heb : (e1 != 0) = true:=by simpa using hE
  have HE : Hid (R = (S1,e1)):=by unfold Hid; rw [HF.out]; unfold drRen1; rw [if_pos hE]
  have HO : Hid (D.G.Out B w a X S1 wB):=ho3
  clear HF ho3
  go_wp2
  go_ret
  exact ⟨by rw [HE.out]; first | done | rfl,by rw [HE.out]; exact HO.out,by rw [HE.out]; exact o.kmono HK1.out (by omega)⟩
 subst hE
 have HF1 : Hid (R = drRen2 D ⟨xi,xn,xt⟩ p (if b0 = true then drKind D S1 xt 2 195 else (S1,0))):=by unfold Hid; rw [HF.out,HB0.out]; unfold drRen1; rw [if_neg (by simp)]
 clear HF
 have HF:=HF1
 clear HF1 HB0
 cases b0
 case false =>
  have HF1 : Hid (R = drRen2 D ⟨xi,xn,xt⟩ p (S1,0)):=by unfold Hid; rw [HF.out,if_neg (by simp)]
  clear HF
  have HF:=HF1
  clear HF1
  have HF1 : Hid (R = drRen3 D ⟨xi,xn,xt⟩ (drFree D S1 p)):=by unfold Hid; rw [HF.out]; unfold drRen2; rw [if_neg (by simp)]
  clear HF
  have HF:=HF1
  clear HF1
  obtain ⟨X2,hx1,hx2,hx3⟩:=ho3
  have HX2 : Hid (Sole X w wB):=hx2
  have HX3 : Hid (∀ k ∈ X2,k ∈ X ∨ w.heap.size ≤ k):=hx3
  have cp:=free_g o hx1 p HQ.out.2 HK1.out.k (by omega)
  have HK3 : Hid (D.Kp s0 (drFree D S1 p).1 (n + 7 + 7)):=by unfold Hid; rw [drFree_st]; exact drSpot_kp o HK1.out p
  have HNX : Hid (gx ∉ X2):=g.sp hx1 HSx.out
  generalize drFree D S1 p = R0 at *
  obtain ⟨S3,⟨yi,yn,yt⟩,e3⟩:=R0
  dsimp only at cp HF HK3
  have hspcy : spC ⟨yi,yn,yt⟩ = #[.int .u32 yi,.string yn,.int .u32 yt]:=rfl
  rw [hspcy] at cp
  clear hx1 hx2 hx3
  go_wp2_with fail
  refine cp.mono ?_
  rintro e wE ⟨rfl,hoA,hok⟩
  have HSn : Hid (SptAt wE gx ⟨xi,xn,xt⟩):=HSx.out.sole hoA.sole HNX.out
  have ho:=Sgt.Out.then HX2.out HX3.out hoA
  clear cp hoA HX2 HX3 HSx HNX
  have hb3:=bel1 wE (.cells (spC ⟨yi,yn,yt⟩) 73)
  have hs3 : SptAt (wE.alloc (.cells (spC ⟨yi,yn,yt⟩) 73)) wE.heap.size ⟨yi,yn,yt⟩:=⟨heap_alloc_new wE _⟩
  obtain ⟨wF,hwF⟩ : ∃ w3,wE.alloc (.cells (spC ⟨yi,yn,yt⟩) 73) = w3:=⟨_,rfl⟩
  rw [hwF] at hb3 hs3
  rw [hspcy] at hwF
  have ho3 : D.G.Out B w a X S3 wF:=g.post ho hb3
  have HOKy : Hid (SptOk ⟨yi,yn,yt⟩):=hok
  have HBy : Hid (Below wE.heap.size wE wF):=hb3
  obtain ⟨gy,hgy⟩ : ∃ q,wE.heap.size = q:=⟨_,rfl⟩
  have HSy : Hid (SptAt wF gy ⟨yi,yn,yt⟩):=by unfold Hid; rw [← hgy]; exact hs3
  clear ho hok hb3 hs3
  go_upto_region 12 with fail
  try rw [hwF]
  try rw [hgy]
  clear hwF hgy
  have HSx : Hid (SptAt wF gx ⟨xi,xn,xt⟩):=HSn.out.below HBy.out
  clear HSn
  by_cases hE : e3 = 0
  case neg =>
   have heb : (e3 != 0) = true:=by simpa using hE
   have HE : Hid (R = (S3,e3)):=by unfold Hid; rw [HF.out]; unfold drRen3; rw [if_pos hE]
   have HO : Hid (D.G.Out B w a X S3 wF):=ho3
   clear HF ho3
   go_wp2
   go_ret
   exact ⟨by rw [HE.out]; first | done | rfl,by rw [HE.out]; exact HO.out,by rw [HE.out]; exact o.kmono HK3.out (by omega)⟩
  subst hE
  have HF1 : Hid (R = drRen4 D ⟨yi,yn,yt⟩ xt (drAway D S3 ⟨xi,xn,xt⟩)):=by unfold Hid; rw [HF.out]; unfold drRen3; rw [if_neg (by simp)]
  clear HF
  have HF:=HF1
  clear HF1
  obtain ⟨X3,hx1,hx2,hx3⟩:=ho3
  have HX2 : Hid (Sole X w wF):=hx2
  have HX3 : Hid (∀ k ∈ X3,k ∈ X ∨ w.heap.size ≤ k):=hx3
  have cw:=takeAway_g o hx1 ⟨xi,xn,xt⟩ HOKx.out HK3.out (by omega)
  have HNX : Hid (gx ∉ X3 ∧ gy ∉ X3):=⟨g.sp hx1 HSx.out,g.sp hx1 HSy.out⟩
  have LD : Hid _:=HSx.out.load
  generalize drAway D S3 ⟨xi,xn,xt⟩ = AR at *
  obtain ⟨S4,e4⟩:=AR
  dsimp only at cw HF
  rw [hspcx] at cw LD
  clear hx1 hx2 hx3
  go_wp2_with (first | (refine wpList_loadG rfl 73 _ rfl _ rfl _ LD.out ?_))
  refine cw.mono ?_
  rintro e wG ⟨rfl,hoB,hkB⟩
  have HK4 : Hid (D.Kp s0 S4 (n + 7 + 7 + 2)):=hkB
  have HSn : Hid (SptAt wG gx ⟨xi,xn,xt⟩ ∧ SptAt wG gy ⟨yi,yn,yt⟩):=⟨HSx.out.sole hoB.sole HNX.out.1,HSy.out.sole hoB.sole HNX.out.2⟩
  have ho3:=Sgt.Out.then HX2.out HX3.out hoB
  clear cw hoB hkB HX2 HX3 HSx HSy HNX LD
  by_cases hE : e4 = 0
  case neg =>
   have heb : (e4 != 0) = true:=by simpa using hE
   have HE : Hid (R = (S4,e4)):=by unfold Hid; rw [HF.out]; unfold drRen4; rw [if_pos hE]
   have HO : Hid (D.G.Out B w a X S4 wG):=ho3
   clear HF ho3
   go_wp2
   go_ret
   exact ⟨by rw [HE.out]; first | done | rfl,by rw [HE.out]; exact HO.out,by rw [HE.out]; exact o.kmono HK4.out (by omega)⟩
  subst hE
  have HF1 : Hid (R = drSet D S4 ⟨yi,yn,yt⟩ xt):=by unfold Hid; rw [HF.out]; unfold drRen4; rw [if_neg (by simp)]
  clear HF
  have HF:=HF1
  clear HF1
  obtain ⟨X4,hx1,hx2,hx3⟩:=ho3
  have HX2 : Hid (Sole X w wG):=hx2
  have HX3 : Hid (∀ k ∈ X4,k ∈ X ∨ w.heap.size ≤ k):=hx3
  have cs:=set_g o hx1 ⟨yi,yn,yt⟩ HOKy.out xt HOKx.out.t0 HOKx.out.t1 HK4.out (by omega)
  have LD : Hid _:=HSn.out.2.load
  have c2x:=HSn.out.1.c2
  generalize drSet D S4 ⟨yi,yn,yt⟩ xt = ST at *
  obtain ⟨S5,e5⟩:=ST
  dsimp only at cs HF
  rw [hspcy] at cs LD
  clear hx1 hx2 hx3
  go_wp2_with (first | (refine wpList_loadG rfl 73 _ rfl _ rfl _ LD.out ?_))
  refine cs.mono ?_
  rintro e wH ⟨rfl,hoD,hkD⟩
  have HO : Hid (D.G.Out B w a X S5 wH ∧ D.Kp s0 S5 (n + 7 + 7 + 2 + 2)):=⟨Sgt.Out.then HX2.out HX3.out hoD,hkD⟩
  have HE : Hid (R = (S5,e5)):=HF.out
  clear cs hoD hkD HX2 HX3 c2x
  go_wp2
  go_ret
  exact ⟨by rw [HE.out]; first | done | rfl,by rw [HE.out]; exact HO.out.1,by rw [HE.out]; exact o.kmono HO.out.2 (by omega)⟩
 case true =>
  have HF1 : Hid (R = drRen2 D ⟨xi,xn,xt⟩ p (drKind D S1 xt 2 195)):=by unfold Hid; rw [HF.out,if_pos rfl]
  clear HF
  have HF:=HF1
  clear HF1
  obtain ⟨X1,hx1,hx2,hx3⟩:=ho3
  have HX2 : Hid (Sole X w wB):=hx2
  have HX3 : Hid (∀ k ∈ X1,k ∈ X ∨ w.heap.size ≤ k):=hx3
  have cr:=refuse_g o hx1 xt HOKx.out.t0 HOKx.out.t1 2 195
  have HK2 : Hid (D.Kp s0 (drKind D S1 xt 2 195).1 (n + 7)):=drKind_kp o HK1.out xt 2 195
  have HNX : Hid (gx ∉ X1):=g.sp hx1 HSx.out
  generalize drKind D S1 xt 2 195 = KR at *
  obtain ⟨S2,e2⟩:=KR
  dsimp only at cr HF HK2
  have c2x:=HSx.out.c2
  clear hx1 hx2 hx3
  go_wp2_with fail
  refine cr.mono ?_
  rintro e wC ⟨rfl,hoB⟩
  have HSn : Hid (SptAt wC gx ⟨xi,xn,xt⟩):=HSx.out.sole hoB.sole HNX.out
  have ho3:=Sgt.Out.then HX2.out HX3.out hoB
  clear cr hoB HX2 HX3 HSx HNX c2x
  have HSx:=HSn
  clear HSn
  by_cases hE : e2 = 0
  case neg =>
   have heb : (e2 != 0) = true:=by simpa using hE
   have HE : Hid (R = (S2,e2)):=by unfold Hid; rw [HF.out]; unfold drRen2; rw [if_pos hE]
   have HO : Hid (D.G.Out B w a X S2 wC):=ho3
   clear HF ho3
   go_wp2
   go_ret
   exact ⟨by rw [HE.out]; first | done | rfl,by rw [HE.out]; exact HO.out,by rw [HE.out]; exact o.kmono HK2.out (by omega)⟩
  subst hE
  have HF1 : Hid (R = drRen3 D ⟨xi,xn,xt⟩ (drFree D S2 p)):=by unfold Hid; rw [HF.out]; unfold drRen2; rw [if_neg (by simp)]
  clear HF
  have HF:=HF1
  clear HF1
  obtain ⟨X2,hx1,hx2,hx3⟩:=ho3
  have HX2 : Hid (Sole X w wC):=hx2
  have HX3 : Hid (∀ k ∈ X2,k ∈ X ∨ w.heap.size ≤ k):=hx3
  have cp:=free_g o hx1 p HQ.out.2 HK2.out.k (by omega)
  have HK3 : Hid (D.Kp s0 (drFree D S2 p).1 (n + 7 + 7)):=by unfold Hid; rw [drFree_st]; exact drSpot_kp o HK2.out p
  have HNX : Hid (gx ∉ X2):=g.sp hx1 HSx.out
  generalize drFree D S2 p = R0 at *
  obtain ⟨S3,⟨yi,yn,yt⟩,e3⟩:=R0
  dsimp only at cp HF HK3
  have hspcy : spC ⟨yi,yn,yt⟩ = #[.int .u32 yi,.string yn,.int .u32 yt]:=rfl
  rw [hspcy] at cp
  clear hx1 hx2 hx3
  go_wp2_with fail
  refine cp.mono ?_
  rintro e wE ⟨rfl,hoA,hok⟩
  have HSn : Hid (SptAt wE gx ⟨xi,xn,xt⟩):=HSx.out.sole hoA.sole HNX.out
  have ho:=Sgt.Out.then HX2.out HX3.out hoA
  clear cp hoA HX2 HX3 HSx HNX
  have hb3:=bel1 wE (.cells (spC ⟨yi,yn,yt⟩) 73)
  have hs3 : SptAt (wE.alloc (.cells (spC ⟨yi,yn,yt⟩) 73)) wE.heap.size ⟨yi,yn,yt⟩:=⟨heap_alloc_new wE _⟩
  obtain ⟨wF,hwF⟩ : ∃ w3,wE.alloc (.cells (spC ⟨yi,yn,yt⟩) 73) = w3:=⟨_,rfl⟩
  rw [hwF] at hb3 hs3
  rw [hspcy] at hwF
  have ho3 : D.G.Out B w a X S3 wF:=g.post ho hb3
  have HOKy : Hid (SptOk ⟨yi,yn,yt⟩):=hok
  have HBy : Hid (Below wE.heap.size wE wF):=hb3
  obtain ⟨gy,hgy⟩ : ∃ q,wE.heap.size = q:=⟨_,rfl⟩
  have HSy : Hid (SptAt wF gy ⟨yi,yn,yt⟩):=by unfold Hid; rw [← hgy]; exact hs3
  clear ho hok hb3 hs3
  go_upto_region 12 with fail
  try rw [hwF]
  try rw [hgy]
  clear hwF hgy
  have HSx : Hid (SptAt wF gx ⟨xi,xn,xt⟩):=HSn.out.below HBy.out
  clear HSn
  by_cases hE : e3 = 0
  case neg =>
   have heb : (e3 != 0) = true:=by simpa using hE
   have HE : Hid (R = (S3,e3)):=by unfold Hid; rw [HF.out]; unfold drRen3; rw [if_pos hE]
   have HO : Hid (D.G.Out B w a X S3 wF):=ho3
   clear HF ho3
   go_wp2
   go_ret
   exact ⟨by rw [HE.out]; first | done | rfl,by rw [HE.out]; exact HO.out,by rw [HE.out]; exact o.kmono HK3.out (by omega)⟩
  subst hE
  have HF1 : Hid (R = drRen4 D ⟨yi,yn,yt⟩ xt (drAway D S3 ⟨xi,xn,xt⟩)):=by unfold Hid; rw [HF.out]; unfold drRen3; rw [if_neg (by simp)]
  clear HF
  have HF:=HF1
  clear HF1
  obtain ⟨X3,hx1,hx2,hx3⟩:=ho3
  have HX2 : Hid (Sole X w wF):=hx2
  have HX3 : Hid (∀ k ∈ X3,k ∈ X ∨ w.heap.size ≤ k):=hx3
  have cw:=takeAway_g o hx1 ⟨xi,xn,xt⟩ HOKx.out HK3.out (by omega)
  have HNX : Hid (gx ∉ X3 ∧ gy ∉ X3):=⟨g.sp hx1 HSx.out,g.sp hx1 HSy.out⟩
  have LD : Hid _:=HSx.out.load
  generalize drAway D S3 ⟨xi,xn,xt⟩ = AR at *
  obtain ⟨S4,e4⟩:=AR
  dsimp only at cw HF
  rw [hspcx] at cw LD
  clear hx1 hx2 hx3
  go_wp2_with (first | (refine wpList_loadG rfl 73 _ rfl _ rfl _ LD.out ?_))
  refine cw.mono ?_
  rintro e wG ⟨rfl,hoB,hkB⟩
  have HK4 : Hid (D.Kp s0 S4 (n + 7 + 7 + 2)):=hkB
  have HSn : Hid (SptAt wG gx ⟨xi,xn,xt⟩ ∧ SptAt wG gy ⟨yi,yn,yt⟩):=⟨HSx.out.sole hoB.sole HNX.out.1,HSy.out.sole hoB.sole HNX.out.2⟩
  have ho3:=Sgt.Out.then HX2.out HX3.out hoB
  clear cw hoB hkB HX2 HX3 HSx HSy HNX LD
  by_cases hE : e4 = 0
  case neg =>
   have heb : (e4 != 0) = true:=by simpa using hE
   have HE : Hid (R = (S4,e4)):=by unfold Hid; rw [HF.out]; unfold drRen4; rw [if_pos hE]
   have HO : Hid (D.G.Out B w a X S4 wG):=ho3
   clear HF ho3
   go_wp2
   go_ret
   exact ⟨by rw [HE.out]; first | done | rfl,by rw [HE.out]; exact HO.out,by rw [HE.out]; exact o.kmono HK4.out (by omega)⟩
  subst hE
  have HF1 : Hid (R = drSet D S4 ⟨yi,yn,yt⟩ xt):=by unfold Hid; rw [HF.out]; unfold drRen4; rw [if_neg (by simp)]
  clear HF
  have HF:=HF1
  clear HF1
  obtain ⟨X4,hx1,hx2,hx3⟩:=ho3
  have HX2 : Hid (Sole X w wG):=hx2
  have HX3 : Hid (∀ k ∈ X4,k ∈ X ∨ w.heap.size ≤ k):=hx3
  have cs:=set_g o hx1 ⟨yi,yn,yt⟩ HOKy.out xt HOKx.out.t0 HOKx.out.t1 HK4.out (by omega)
  have LD : Hid _:=HSn.out.2.load
  have c2x:=HSn.out.1.c2
  generalize drSet D S4 ⟨yi,yn,yt⟩ xt = ST at *
  obtain ⟨S5,e5⟩:=ST
  dsimp only at cs HF
  rw [hspcy] at cs LD
  clear hx1 hx2 hx3
  go_wp2_with (first | (refine wpList_loadG rfl 73 _ rfl _ rfl _ LD.out ?_))
  refine cs.mono ?_
  rintro e wH ⟨rfl,hoD,hkD⟩
  have HO : Hid (D.G.Out B w a X S5 wH ∧ D.Kp s0 S5 (n + 7 + 7 + 2 + 2)):=⟨Sgt.Out.then HX2.out HX3.out hoD,hkD⟩
  have HE : Hid (R = (S5,e5)):=HF.out
  clear cs hoD hkD HX2 HX3 c2x
  go_wp2
  go_ret
  exact ⟨by rw [HE.out]; first | done | rfl,by rw [HE.out]; exact HO.out.1,by rw [HE.out]; exact o.kmono HO.out.2 (by omega)⟩
end Go.Proofs.YtgajjphjkbnaeaaGreat
