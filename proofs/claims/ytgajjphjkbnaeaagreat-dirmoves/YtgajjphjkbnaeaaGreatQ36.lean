/- DrG: in one text. -/
import Derived.Test.YtgajjphjkbnaeaaGreatQ35
namespace Go.Proofs.YtgajjphjkbnaeaaGreat
open Go.RowKit
set_option linter.unusedVariables false
set_option maxHeartbeats 32000000
set_option maxRecDepth 100000
set_option linter.unusedSimpArgs false
open Go.RowKit Go.Maps
theorem own_down {w : World} {base base' n k : Nat} {e : TypeId} {v : Value} {xs : List Value} (h : w.ownsRow base e k v n xs) (hb : base' ≤ base) : w.ownsRow base' e k v n xs:=by
 obtain ⟨h1,h2 | ⟨g,cap,cur,rfl,h3,h4,h5⟩⟩:=h
 ·exact ⟨h1,.inl h2⟩
 ·exact ⟨h1,.inr ⟨g,cap,cur,rfl,Nat.le_trans hb h3,h4,h5⟩⟩
theorem own_leD {w : World} {base e k : Nat} {v : Value} {n : Nat} {xs : List Value} (h : w.ownsRow base e k v n xs) : n ≤ maxLen:=by
 obtain ⟨_,⟨_,h0⟩ | ⟨g,cap,cur,_,_,_,h5,h6,_⟩⟩:=h
 ·rw [h0]; exact Nat.zero_le _
 ·omega
theorem find_g {D : Sgd} (o : D.Ok) {B : Nat} {w : World} {a : Sa} {X : List Nat} {s0 s : D.G.S} {n : Nat} (h : D.G.In B w a X s) (p : ByteArray) (hp : p.size ≤ maxLen) (hk : D.Kp s0 s n) (hn : n ≤ 3880) :
  Calls Tryz.prog 9 #[.pointer (some ⟨a.s,0,none⟩),.string p] w fun e w' => e = .returned (.tuple #[.int .u32 (drFind D s p).2.1,.int .i64 (drFind D s p).2.2]) ∧ D.G.Out B w a X (drFind D s p).1 w' ∧ D.Kp s0 (drFind D s p).1 (n + 8) ∧ 0 ≤ (drFind D s p).2.1 ∧ (drFind D s p).2.1 ≤ 4294967295:=by
 have g:=o.g
 have cp:=psplit_any w p hp
 unfold SpOut at cp
 have HF : Hid (drFind D s p = if pathE p ≠ 0 then (s,0,pathE p) else drDown D (pathL p) s 1):=rfl
 have HPK : Hid (pathE p = 0 → (∀ x ∈ pathL p,x.size ≤ 8) ∧ (pathL p).length ≤ 6):=path_ok
 have HK : Hid (D.Kp s0 s n):=hk
 have HI : Hid (D.G.In B w a X s):=h
 have HKF : Hid (D.Kp s0 (drFind D s p).1 (n + 8)):=o.kmono (drFind_kp o hk p) (by omega)
 generalize drFind D s p = R at *
 generalize pathE p = E at *
 generalize pathL p = L at *
 clear h hk hp
 go_enter Tryz.func9,Tryz.ntmps9
 go_wp2_with fail
 refine cp.mono ?_
 rintro e w2 ⟨pa,pn,pc,rfl,hfr,hb2⟩
 clear cp
 by_cases hE : E = 0
 case neg =>
  have heb : (E != 0) = true:=by simpa using hE
  have HE : Hid (R = (s,0,E)):=by unfold Hid; rw [HF.out,if_pos hE]
  have HO : Hid (D.G.Out B w a X s w2):=g.out HI.out hb2
  clear HF hfr hb2
  go_wp2
  go_ret2
  exact ⟨by rw [HE.out]; first | done | rfl,by rw [HE.out]; exact HO.out,HKF.out,by rw [HE.out]; exact ⟨Int.le_refl _,show (0 : Int) ≤ 4294967295 by decide⟩⟩
 subst hE
 obtain ⟨k1,k2⟩:=HPK.out rfl
 have HE : Hid (R = drDown D L s 1):=by unfold Hid; rw [HF.out,if_neg (by simp)]
 have cd:=goDown_g o (g.below HI.out hb2) (hfr.mono (Nat.zero_le _)) k2 k1 HK.out.k (by omega)
 have HB2 : Hid (Below w.heap.size w w2):=hb2
 generalize drDown D L s 1 = DD at *
 obtain ⟨S1,t1,e1⟩:=DD
 dsimp only at cd HE
 clear HF HPK k1 k2 hfr hb2
 go_wp2_with fail
 refine cd.mono ?_
 rintro e w3 ⟨rfl,ho3,q0,q1⟩
 have HO : Hid (D.G.Out B w a X S1 w3):=Sgt.Out.pre HB2.out ho3
 clear cd ho3
 go_wp2
 go_ret2
 exact ⟨by rw [HE.out]; first | done | rfl,by rw [HE.out]; exact HO.out,HKF.out,by rw [HE.out]; exact ⟨q0,q1⟩⟩
theorem list_g {D : Sgd} (o : D.Ok) {B : Nat} {w : World} {a : Sa} {X : List Nat} {s0 s : D.G.S} {n : Nat} (h : D.G.In B w a X s) (p : ByteArray) (hp : p.size ≤ maxLen) (hk : D.Kp s0 s n) (hn : n ≤ 3800) :
  Calls Tryz.prog 19 #[.pointer (some ⟨a.s,0,none⟩),.string p] w fun e w' => ∃ v,e = .returned (.tuple #[v,.int .i64 (drList D s p).2.2]) ∧ D.G.Out B w a X (drList D s p).1 w' ∧ D.Kp s0 (drList D s p).1 (n + 60) ∧ w'.ownsRow w.heap.size 9 1 v (drList D s p).2.1.length ((drList D s p).2.1.flatMap strE):=by
 have g:=o.g
 have cp:=find_g o h p hp hk (by omega)
 have HF : Hid (drList D s p = drList1 D (drFind D s p)):=rfl
 have HNE : Hid ((drFind D s p).2.2 = 0 → (drFind D s p).2.1 ≠ 0):=drFind_ne D s p
 generalize drList D s p = R at *
 generalize drFind D s p = R0 at *
 obtain ⟨S1,t1,e1⟩:=R0
 dsimp only at cp HF HNE
 clear h hk hp
 go_enter Tryz.func19,Tryz.ntmps19
 go_wp2_with fail
 refine cp.mono ?_
 rintro e wA ⟨rfl,ho3,hk1,q0,q1⟩
 have HK1 : Hid (D.Kp s0 S1 (n + 8)):=hk1
 clear cp hk1
 by_cases hE : e1 = 0
 case neg =>
  have heb : (e1 != 0) = true:=by simpa using hE
  have HE : Hid (R = (S1,[],e1)):=by unfold Hid; rw [HF.out]; unfold drList1; rw [if_pos hE]
  have HO : Hid (D.G.Out B w a X S1 wA):=ho3
  clear HF ho3
  go_wp2
  go_ret2
  exact ⟨.slice none 0 0,by rw [HE.out]; first | done | rfl,by rw [HE.out]; exact HO.out,by rw [HE.out]; exact o.kmono HK1.out (by omega),by rw [HE.out]; exact World.ownsRow_nil _ _ _ _⟩
 subst hE
 have ht0 : 0 < t1:=by have:=HNE.out rfl; omega
 have HF1 : Hid (R = drList2 D t1 (drKind D S1 t1 1 192)):=by unfold Hid; rw [HF.out]; unfold drList1; rw [if_neg (by simp)]
 clear HF
 have HF:=HF1
 clear HF1
 obtain ⟨X1,hx1,hx2,hx3⟩:=ho3
 have HX2 : Hid (Sole X w wA):=hx2
 have HX3 : Hid (∀ k ∈ X1,k ∈ X ∨ w.heap.size ≤ k):=hx3
 have cr:=refuse_g o hx1 t1 q0 q1 1 192
 have HK2 : Hid (D.Kp s0 (drKind D S1 t1 1 192).1 (n + 8)):=drKind_kp o HK1.out t1 1 192
 generalize drKind D S1 t1 1 192 = KR at *
 obtain ⟨S2,e2⟩:=KR
 dsimp only at cr HF HK2
 clear hx1 hx2 hx3 HK1 HNE
 go_wp2_with fail
 refine cr.mono ?_
 rintro e wB ⟨rfl,hoB⟩
 have ho3:=Sgt.Out.then HX2.out HX3.out hoB
 clear cr hoB HX2 HX3
 by_cases hE : e2 = 0
 case neg =>
  have heb : (e2 != 0) = true:=by simpa using hE
  have HE : Hid (R = (S2,[],e2)):=by unfold Hid; rw [HF.out]; unfold drList2; rw [if_pos hE]
  have HO : Hid (D.G.Out B w a X S2 wB):=ho3
  clear HF ho3
  go_wp2
  go_ret2
  exact ⟨.slice none 0 0,by rw [HE.out]; first | done | rfl,by rw [HE.out]; exact HO.out,by rw [HE.out]; exact o.kmono HK2.out (by omega),by rw [HE.out]; exact World.ownsRow_nil _ _ _ _⟩
 subst hE
 have HF1 : Hid (R = D.nms S2 t1):=by unfold Hid; rw [HF.out]; unfold drList2; rw [if_neg (by simp)]
 clear HF
 have HF:=HF1
 clear HF1
 obtain ⟨X2,hx1,hx2,hx3⟩:=ho3
 have HX2 : Hid (Sole X w wB):=hx2
 have HX3 : Hid (∀ k ∈ X2,k ∈ X ∨ w.heap.size ≤ k):=hx3
 have cn:=o.nmsC hx1 t1 ht0 q1 HK2.out.k (by omega) HK2.out.j
 have HK3 : Hid (D.Kp s0 (D.nms S2 t1).1 (n + 9)):=⟨o.bN HK2.out.k t1,o.jN HK2.out.j t1⟩
 have HSZ : Hid (w.heap.size ≤ wB.heap.size):=hx2.size
 generalize D.nms S2 t1 = NR at *
 obtain ⟨S3,nl,e3⟩:=NR
 dsimp only at cn HF HK3
 clear hx1 hx2 hx3 HK2
 go_wp2_with fail
 refine cn.mono ?_
 rintro e wC ⟨v,rfl,hoC,hown⟩
 have HO : Hid (D.G.Out B w a X S3 wC):=Sgt.Out.then HX2.out HX3.out hoC
 have HOWN : Hid (wC.ownsRow w.heap.size 9 1 v nl.length (nl.flatMap strE)):=own_down hown HSZ.out
 clear cn hoC hown
 go_wp2
 go_ret2
 exact ⟨v,by rw [HF.out]; first | done | rfl,by rw [HF.out]; exact HO.out,by rw [HF.out]; exact o.kmono HK3.out (by omega),by rw [HF.out]; exact HOWN.out⟩
theorem make_g {D : Sgd} (o : D.Ok) {B : Nat} {w : World} {a : Sa} {X : List Nat} {s0 s : D.G.S} {n : Nat} (h : D.G.In B w a X s) (p : ByteArray) (hp : p.size ≤ maxLen) (kind mode : Int) (hk : D.Kp s0 s n) (hn : n ≤ 3800) :
  Calls Tryz.prog 17 #[.pointer (some ⟨a.s,0,none⟩),.string p,.int .i64 kind,.int .i64 mode] w fun e w' => e = .returned (.tuple #[.int .u32 (drMake D s p kind mode).2.1,.int .i64 (drMake D s p kind mode).2.2]) ∧ D.G.Out B w a X (drMake D s p kind mode).1 w' ∧ D.Kp s0 (drMake D s p kind mode).1 (n + 50):=by
 have g:=o.g
 have cp:=free_g o h p hp hk.k (by omega)
 have HF : Hid (drMake D s p kind mode = drMake0 D kind mode (drFree D s p)):=rfl
 have HK1 : Hid (D.Kp s0 (drFree D s p).1 (n + 7)):=by unfold Hid; rw [drFree_st]; exact drSpot_kp o hk p
 generalize drMake D s p kind mode = R at *
 generalize drFree D s p = R0 at *
 obtain ⟨S1,⟨xi,xn,xt⟩,e1⟩:=R0
 dsimp only at cp HF HK1
 have hspcx : spC ⟨xi,xn,xt⟩ = #[.int .u32 xi,.string xn,.int .u32 xt]:=rfl
 rw [hspcx] at cp
 clear h hk hp
 go_enter Tryz.func17,Tryz.ntmps17
 go_wp2_with fail
 refine cp.mono ?_
 rintro e wA ⟨rfl,ho,hok⟩
 clear cp
 have hb3:=bel1 wA (.cells (spC ⟨xi,xn,xt⟩) 73)
 have hs3 : SptAt (wA.alloc (.cells (spC ⟨xi,xn,xt⟩) 73)) wA.heap.size ⟨xi,xn,xt⟩:=⟨heap_alloc_new wA _⟩
 obtain ⟨wB,hwB⟩ : ∃ w3,wA.alloc (.cells (spC ⟨xi,xn,xt⟩) 73) = w3:=⟨_,rfl⟩
 rw [hwB] at hb3 hs3
 rw [hspcx] at hwB
 have ho3 : D.G.Out B w a X S1 wB:=g.post ho hb3
 have HOKx : Hid (SptOk ⟨xi,xn,xt⟩):=hok
 have HBx : Hid (Below wA.heap.size wA wB):=hb3
 obtain ⟨gx,hgx⟩ : ∃ q,wA.heap.size = q:=⟨_,rfl⟩
 have HSx : Hid (SptAt wB gx ⟨xi,xn,xt⟩):=by unfold Hid; rw [← hgx]; exact hs3
 clear ho hok hb3 hs3
 go_upto_region 2 with fail
 try rw [hwB]
 try rw [hgx]
 clear hwB hgx
 by_cases hE : e1 = 0
 case neg =>
  have heb : (e1 != 0) = true:=by simpa using hE
  have HE : Hid (R = (S1,0,e1)):=by unfold Hid; rw [HF.out]; unfold drMake0; rw [if_pos hE]
  have HO : Hid (D.G.Out B w a X S1 wB):=ho3
  clear HF ho3
  go_wp2
  go_ret2
  exact ⟨by rw [HE.out]; first | done | rfl,by rw [HE.out]; exact HO.out,by rw [HE.out]; exact o.kmono HK1.out (by omega)⟩
 subst hE
 have HF1 : Hid (R = drMake1 D ⟨xi,xn,xt⟩ (D.mak S1 kind mode)):=by unfold Hid; rw [HF.out]; unfold drMake0; rw [if_neg (by simp)]
 clear HF
 have HF:=HF1
 clear HF1
 obtain ⟨X1,hx1,hx2,hx3⟩:=ho3
 have HX2 : Hid (Sole X w wB):=hx2
 have HX3 : Hid (∀ k ∈ X1,k ∈ X ∨ w.heap.size ≤ k):=hx3
 have cm:=o.maks hx1 kind mode HK1.out.k (by omega)
 have HT : Hid (0 ≤ (D.mak S1 kind mode).2.1 ∧ (D.mak S1 kind mode).2.1 ≤ 4294967295):=o.makT hx1 kind mode
 have HK2 : Hid (D.Kp s0 (D.mak S1 kind mode).1 (n + 8)):=⟨o.bM HK1.out.k _ _,o.jM hx1 HK1.out.j _ _⟩
 have HNX : Hid (gx ∉ X1):=g.sp hx1 HSx.out
 generalize D.mak S1 kind mode = MK at *
 obtain ⟨S2,mi,e2⟩:=MK
 dsimp only at cm HF HT HK2
 clear hx1 hx2 hx3 HK1
 go_wp2_with fail
 refine cm.mono ?_
 rintro e wC ⟨rfl,hoC⟩
 have HSC : Hid (SptAt wC gx ⟨xi,xn,xt⟩):=HSx.out.sole hoC.sole HNX.out
 have ho3:=Sgt.Out.then HX2.out HX3.out hoC
 clear cm hoC HX2 HX3 HSx HNX
 by_cases hE : e2 = 0
 case neg =>
  have heb : (e2 != 0) = true:=by simpa using hE
  have HE : Hid (R = (S2,0,e2)):=by unfold Hid; rw [HF.out]; unfold drMake1; rw [if_pos hE]
  have HO : Hid (D.G.Out B w a X S2 wC):=ho3
  clear HF ho3
  go_wp2
  go_ret2
  exact ⟨by rw [HE.out]; first | done | rfl,by rw [HE.out]; exact HO.out,by rw [HE.out]; exact o.kmono HK2.out (by omega)⟩
 subst hE
 have HF1 : Hid (R = drMake2 D mi (drSet D S2 ⟨xi,xn,xt⟩ mi)):=by unfold Hid; rw [HF.out]; unfold drMake1; rw [if_neg (by simp)]
 clear HF
 have HF:=HF1
 clear HF1
 obtain ⟨X2,hx1,hx2,hx3⟩:=ho3
 have HX2 : Hid (Sole X w wC):=hx2
 have HX3 : Hid (∀ k ∈ X2,k ∈ X ∨ w.heap.size ≤ k):=hx3
 have cs:=set_g o hx1 ⟨xi,xn,xt⟩ HOKx.out mi HT.out.1 HT.out.2 HK2.out (by omega)
 have LD : Hid _:=HSC.out.load
 generalize drSet D S2 ⟨xi,xn,xt⟩ mi = ST at *
 obtain ⟨S3,e3⟩:=ST
 dsimp only at cs HF
 rw [hspcx] at cs LD
 clear hx1 hx2 hx3
 go_wp2_with (first | (refine wpList_loadG rfl 73 _ rfl _ rfl _ LD.out ?_))
 refine cs.mono ?_
 rintro e wD ⟨rfl,hoD,hkD⟩
 have HK3 : Hid (D.Kp s0 S3 (n + 8 + 2)):=hkD
 have ho3:=Sgt.Out.then HX2.out HX3.out hoD
 clear cs hoD hkD HX2 HX3
 by_cases hE : e3 = 0
 case neg =>
  have heb : (e3 != 0) = true:=by simpa using hE
  have HE : Hid (R = (S3,0,e3)):=by unfold Hid; rw [HF.out]; unfold drMake2; rw [if_pos hE]
  have HO : Hid (D.G.Out B w a X S3 wD):=ho3
  clear HF ho3
  go_wp2
  go_ret2
  exact ⟨by rw [HE.out]; first | done | rfl,by rw [HE.out]; exact HO.out,by rw [HE.out]; exact o.kmono HK3.out (by omega)⟩
 subst hE
 have HE : Hid (R = (S3,mi,0)):=by unfold Hid; rw [HF.out]; unfold drMake2; rw [if_neg (by simp)]
 have HO : Hid (D.G.Out B w a X S3 wD):=ho3
 clear HF ho3
 go_wp2
 go_ret2
 exact ⟨by rw [HE.out]; first | done | rfl,by rw [HE.out]; exact HO.out,by rw [HE.out]; exact o.kmono HK3.out (by omega)⟩
theorem unlink_g {D : Sgd} (o : D.Ok) {B : Nat} {w : World} {a : Sa} {X : List Nat} {s0 s : D.G.S} {n : Nat} (h : D.G.In B w a X s) (p : ByteArray) (hp : p.size ≤ maxLen) (hk : D.Kp s0 s n) (hn : n ≤ 3800) :
  Calls Tryz.prog 14 #[.pointer (some ⟨a.s,0,none⟩),.string p] w fun e w' => e = .returned (.int .i64 (drUnlink D s p).2) ∧ D.G.Out B w a X (drUnlink D s p).1 w' ∧ D.Kp s0 (drUnlink D s p).1 (n + 50):=by
 have g:=o.g
 have cp:=taken_g o h p hp hk.k (by omega)
 have HF : Hid (drUnlink D s p = drUnlink0 D (drTaken D s p)):=rfl
 have HK1 : Hid (D.Kp s0 (drTaken D s p).1 (n + 7)):=by unfold Hid; rw [drTaken_st]; exact drSpot_kp o hk p
 generalize drUnlink D s p = R at *
 generalize drTaken D s p = R0 at *
 obtain ⟨S1,⟨xi,xn,xt⟩,e1⟩:=R0
 dsimp only at cp HF HK1
 have hspcx : spC ⟨xi,xn,xt⟩ = #[.int .u32 xi,.string xn,.int .u32 xt]:=rfl
 rw [hspcx] at cp
 clear h hk hp
 go_enter Tryz.func14,Tryz.ntmps14
 go_wp2_with fail
 refine cp.mono ?_
 rintro e wA ⟨rfl,ho,hok⟩
 clear cp
 have hb3:=bel1 wA (.cells (spC ⟨xi,xn,xt⟩) 73)
 have hs3 : SptAt (wA.alloc (.cells (spC ⟨xi,xn,xt⟩) 73)) wA.heap.size ⟨xi,xn,xt⟩:=⟨heap_alloc_new wA _⟩
 obtain ⟨wB,hwB⟩ : ∃ w3,wA.alloc (.cells (spC ⟨xi,xn,xt⟩) 73) = w3:=⟨_,rfl⟩
 rw [hwB] at hb3 hs3
 rw [hspcx] at hwB
 have ho3 : D.G.Out B w a X S1 wB:=g.post ho hb3
 have HOKx : Hid (SptOk ⟨xi,xn,xt⟩):=hok
 have HBx : Hid (Below wA.heap.size wA wB):=hb3
 obtain ⟨gx,hgx⟩ : ∃ q,wA.heap.size = q:=⟨_,rfl⟩
 have HSx : Hid (SptAt wB gx ⟨xi,xn,xt⟩):=by unfold Hid; rw [← hgx]; exact hs3
 clear ho hok hb3 hs3
 go_upto_region 2 with fail
 try rw [hwB]
 try rw [hgx]
 clear hwB hgx
 by_cases hE : e1 = 0
 case neg =>
  have heb : (e1 != 0) = true:=by simpa using hE
  have HE : Hid (R = (S1,e1)):=by unfold Hid; rw [HF.out]; unfold drUnlink0; rw [if_pos hE]
  have HO : Hid (D.G.Out B w a X S1 wB):=ho3
  clear HF ho3
  go_wp2
  go_ret
  exact ⟨by rw [HE.out]; first | done | rfl,by rw [HE.out]; exact HO.out,by rw [HE.out]; exact o.kmono HK1.out (by omega)⟩
 subst hE
 have HF1 : Hid (R = drUnlink1 D ⟨xi,xn,xt⟩ (drKind D S1 xt 2 193)):=by unfold Hid; rw [HF.out]; unfold drUnlink0; rw [if_neg (by simp)]
 clear HF
 have HF:=HF1
 clear HF1
 obtain ⟨X1,hx1,hx2,hx3⟩:=ho3
 have HX2 : Hid (Sole X w wB):=hx2
 have HX3 : Hid (∀ k ∈ X1,k ∈ X ∨ w.heap.size ≤ k):=hx3
 have cr:=refuse_g o hx1 xt HOKx.out.t0 HOKx.out.t1 2 193
 have HK2 : Hid (D.Kp s0 (drKind D S1 xt 2 193).1 (n + 7)):=drKind_kp o HK1.out xt 2 193
 have HNX : Hid (gx ∉ X1):=g.sp hx1 HSx.out
 generalize drKind D S1 xt 2 193 = KR at *
 obtain ⟨S2,e2⟩:=KR
 dsimp only at cr HF HK2
 have c2x:=HSx.out.c2
 clear hx1 hx2 hx3
 go_wp2_with fail
 refine cr.mono ?_
 rintro e wC ⟨rfl,hoB⟩
 have HSn : Hid (SptAt wC gx ⟨xi,xn,xt⟩):=HSx.out.sole hoB.sole HNX.out
 have ho3:=Sgt.Out.then HX2.out HX3.out hoB
 clear cr hoB HX2 HX3 HSx HNX c2x
 have HSx:=HSn
 clear HSn
 by_cases hE : e2 = 0
 case neg =>
  have heb : (e2 != 0) = true:=by simpa using hE
  have HE : Hid (R = (S2,e2)):=by unfold Hid; rw [HF.out]; unfold drUnlink1; rw [if_pos hE]
  have HO : Hid (D.G.Out B w a X S2 wC):=ho3
  clear HF ho3
  go_wp2
  go_ret
  exact ⟨by rw [HE.out]; first | done | rfl,by rw [HE.out]; exact HO.out,by rw [HE.out]; exact o.kmono HK2.out (by omega)⟩
 subst hE
 have HF1 : Hid (R = drUnlink2 D xt (drAway D S2 ⟨xi,xn,xt⟩)):=by unfold Hid; rw [HF.out]; unfold drUnlink1; rw [if_neg (by simp)]
 clear HF
 have HF:=HF1
 clear HF1
 obtain ⟨X2,hx1,hx2,hx3⟩:=ho3
 have HX2 : Hid (Sole X w wC):=hx2
 have HX3 : Hid (∀ k ∈ X2,k ∈ X ∨ w.heap.size ≤ k):=hx3
 have cw:=takeAway_g o hx1 ⟨xi,xn,xt⟩ HOKx.out HK2.out (by omega)
 have HNX : Hid (gx ∉ X2):=g.sp hx1 HSx.out
 have LD : Hid _:=HSx.out.load
 generalize drAway D S2 ⟨xi,xn,xt⟩ = AR at *
 obtain ⟨S3,e3⟩:=AR
 dsimp only at cw HF
 rw [hspcx] at cw LD
 clear hx1 hx2 hx3
 go_wp2_with (first | (refine wpList_loadG rfl 73 _ rfl _ rfl _ LD.out ?_))
 refine cw.mono ?_
 rintro e wD ⟨rfl,hoB,hkB⟩
 have HK3 : Hid (D.Kp s0 S3 (n + 7 + 2)):=hkB
 have HSn : Hid (SptAt wD gx ⟨xi,xn,xt⟩):=HSx.out.sole hoB.sole HNX.out
 have ho3:=Sgt.Out.then HX2.out HX3.out hoB
 clear cw hoB hkB HX2 HX3 HSx HNX LD
 have HSx:=HSn
 clear HSn
 by_cases hE : e3 = 0
 case neg =>
  have heb : (e3 != 0) = true:=by simpa using hE
  have HE : Hid (R = (S3,e3)):=by unfold Hid; rw [HF.out]; unfold drUnlink2; rw [if_pos hE]
  have HO : Hid (D.G.Out B w a X S3 wD):=ho3
  clear HF ho3
  go_wp2
  go_ret
  exact ⟨by rw [HE.out]; first | done | rfl,by rw [HE.out]; exact HO.out,by rw [HE.out]; exact o.kmono HK3.out (by omega)⟩
 subst hE
 have HF1 : Hid (R = drUnlink3 D (D.lk S3 xt (-1))):=by unfold Hid; rw [HF.out]; unfold drUnlink2; rw [if_neg (by simp)]
 clear HF
 have HF:=HF1
 clear HF1
 obtain ⟨X3,hx1,hx2,hx3⟩:=ho3
 have HX2 : Hid (Sole X w wD):=hx2
 have HX3 : Hid (∀ k ∈ X3,k ∈ X ∨ w.heap.size ≤ k):=hx3
 have cl:=o.lks hx1 xt HOKx.out.t0 HOKx.out.t1 (-1) (by decide) (by decide) HK3.out.k (by omega)
 have HK4 : Hid (D.Kp s0 (D.lk S3 xt (-1)).1 (n + 7 + 2 + 30)):=⟨o.bL hx1 HK3.out.k _ _,o.jL hx1 HK3.out.j xt HOKx.out.t0 HOKx.out.t1 _⟩
 have c2x:=HSx.out.c2
 generalize D.lk S3 xt (-1) = LR at *
 obtain ⟨S4,ly,e4⟩:=LR
 dsimp only at cl HF HK4
 clear hx1 hx2 hx3
 go_wp2_with fail
 refine cl.mono ?_
 rintro e wE ⟨rfl,hoE⟩
 have HO : Hid (D.G.Out B w a X S4 wE):=Sgt.Out.then HX2.out HX3.out hoE
 have HE : Hid (R = (S4,e4)):=by unfold Hid; rw [HF.out]; rfl
 clear cl hoE HX2 HX3 c2x
 go_wp2
 go_ret
 exact ⟨by rw [HE.out]; first | done | rfl,by rw [HE.out]; exact HO.out,by rw [HE.out]; exact o.kmono HK4.out (by omega)⟩
theorem rmdir_g {D : Sgd} (o : D.Ok) {B : Nat} {w : World} {a : Sa} {X : List Nat} {s0 s : D.G.S} {n : Nat} (h : D.G.In B w a X s) (p : ByteArray) (hp : p.size ≤ maxLen) (hk : D.Kp s0 s n) (hn : n ≤ 3800) :
  Calls Tryz.prog 18 #[.pointer (some ⟨a.s,0,none⟩),.string p] w fun e w' => e = .returned (.int .i64 (drRmdir D s p).2) ∧ D.G.Out B w a X (drRmdir D s p).1 w' ∧ D.Kp s0 (drRmdir D s p).1 (n + 50):=by
 have g:=o.g
 have cp:=taken_g o h p hp hk.k (by omega)
 have HF : Hid (drRmdir D s p = drRmdir0 D (drTaken D s p)):=rfl
 have HK1 : Hid (D.Kp s0 (drTaken D s p).1 (n + 7)):=by unfold Hid; rw [drTaken_st]; exact drSpot_kp o hk p
 have HNE : Hid ((drTaken D s p).2.2 = 0 → (drTaken D s p).2.1.to ≠ 0):=drTaken_ne D s p
 generalize drRmdir D s p = R at *
 generalize drTaken D s p = R0 at *
 obtain ⟨S1,⟨xi,xn,xt⟩,e1⟩:=R0
 dsimp only at cp HF HK1 HNE
 have hspcx : spC ⟨xi,xn,xt⟩ = #[.int .u32 xi,.string xn,.int .u32 xt]:=rfl
 rw [hspcx] at cp
 clear h hk hp
 go_enter Tryz.func18,Tryz.ntmps18
 go_wp2_with fail
 refine cp.mono ?_
 rintro e wA ⟨rfl,ho,hok⟩
 clear cp
 have hb3:=bel1 wA (.cells (spC ⟨xi,xn,xt⟩) 73)
 have hs3 : SptAt (wA.alloc (.cells (spC ⟨xi,xn,xt⟩) 73)) wA.heap.size ⟨xi,xn,xt⟩:=⟨heap_alloc_new wA _⟩
 obtain ⟨wB,hwB⟩ : ∃ w3,wA.alloc (.cells (spC ⟨xi,xn,xt⟩) 73) = w3:=⟨_,rfl⟩
 rw [hwB] at hb3 hs3
 rw [hspcx] at hwB
 have ho3 : D.G.Out B w a X S1 wB:=g.post ho hb3
 have HOKx : Hid (SptOk ⟨xi,xn,xt⟩):=hok
 have HBx : Hid (Below wA.heap.size wA wB):=hb3
 obtain ⟨gx,hgx⟩ : ∃ q,wA.heap.size = q:=⟨_,rfl⟩
 have HSx : Hid (SptAt wB gx ⟨xi,xn,xt⟩):=by unfold Hid; rw [← hgx]; exact hs3
 clear ho hok hb3 hs3
 go_upto_region 2 with fail
 try rw [hwB]
 try rw [hgx]
 clear hwB hgx
 by_cases hE : e1 = 0
 case neg =>
  have heb : (e1 != 0) = true:=by simpa using hE
  have HE : Hid (R = (S1,e1)):=by unfold Hid; rw [HF.out]; unfold drRmdir0; rw [if_pos hE]
  have HO : Hid (D.G.Out B w a X S1 wB):=ho3
  clear HF ho3
  go_wp2
  go_ret
  exact ⟨by rw [HE.out]; first | done | rfl,by rw [HE.out]; exact HO.out,by rw [HE.out]; exact o.kmono HK1.out (by omega)⟩
 subst hE
 have HXT : Hid (0 < xt):=by have h1:=HNE.out rfl; have h2:=HOKx.out.t0; unfold Hid; dsimp only at h2; omega
 have HF1 : Hid (R = drRmdir1 D ⟨xi,xn,xt⟩ (drKind D S1 xt 1 192)):=by unfold Hid; rw [HF.out]; unfold drRmdir0; rw [if_neg (by simp)]
 clear HF
 have HF:=HF1
 clear HF1
 obtain ⟨X1,hx1,hx2,hx3⟩:=ho3
 have HX2 : Hid (Sole X w wB):=hx2
 have HX3 : Hid (∀ k ∈ X1,k ∈ X ∨ w.heap.size ≤ k):=hx3
 have cr:=refuse_g o hx1 xt HOKx.out.t0 HOKx.out.t1 1 192
 have HK2 : Hid (D.Kp s0 (drKind D S1 xt 1 192).1 (n + 7)):=drKind_kp o HK1.out xt 1 192
 have HNX : Hid (gx ∉ X1):=g.sp hx1 HSx.out
 generalize drKind D S1 xt 1 192 = KR at *
 obtain ⟨S2,e2⟩:=KR
 dsimp only at cr HF HK2
 have c2x:=HSx.out.c2
 clear hx1 hx2 hx3
 go_wp2_with fail
 refine cr.mono ?_
 rintro e wC ⟨rfl,hoB⟩
 have HSn : Hid (SptAt wC gx ⟨xi,xn,xt⟩):=HSx.out.sole hoB.sole HNX.out
 have ho3:=Sgt.Out.then HX2.out HX3.out hoB
 clear cr hoB HX2 HX3 HSx HNX c2x
 have HSx:=HSn
 clear HSn
 by_cases hE : e2 = 0
 case neg =>
  have heb : (e2 != 0) = true:=by simpa using hE
  have HE : Hid (R = (S2,e2)):=by unfold Hid; rw [HF.out]; unfold drRmdir1; rw [if_pos hE]
  have HO : Hid (D.G.Out B w a X S2 wC):=ho3
  clear HF ho3
  go_wp2
  go_ret
  exact ⟨by rw [HE.out]; first | done | rfl,by rw [HE.out]; exact HO.out,by rw [HE.out]; exact o.kmono HK2.out (by omega)⟩
 subst hE
 have HF1 : Hid (R = drRmdir2 D ⟨xi,xn,xt⟩ (D.nms S2 xt)):=by unfold Hid; rw [HF.out]; unfold drRmdir1; rw [if_neg (by simp)]
 clear HF
 have HF:=HF1
 clear HF1
 obtain ⟨X2,hx1,hx2,hx3⟩:=ho3
 have HX2 : Hid (Sole X w wC):=hx2
 have HX3 : Hid (∀ k ∈ X2,k ∈ X ∨ w.heap.size ≤ k):=hx3
 have cn:=o.nmsC hx1 xt HXT.out HOKx.out.t1 HK2.out.k (by omega) HK2.out.j
 have HK3 : Hid (D.Kp s0 (D.nms S2 xt).1 (n + 7 + 1)):=⟨o.bN HK2.out.k xt,o.jN HK2.out.j xt⟩
 have HNX : Hid (gx ∉ X2):=g.sp hx1 HSx.out
 have c2x:=HSx.out.c2
 generalize D.nms S2 xt = NR at *
 obtain ⟨S3,nl,e3⟩:=NR
 dsimp only at cn HF HK3
 clear hx1 hx2 hx3
 go_wp2_with fail
 refine cn.mono ?_
 rintro e wD ⟨v,rfl,hoB,hown⟩
 obtain ⟨va,vc,rfl⟩:=own_shape hown
 have HSn : Hid (SptAt wD gx ⟨xi,xn,xt⟩):=HSx.out.sole hoB.sole HNX.out
 have ho3:=Sgt.Out.then HX2.out HX3.out hoB
 obtain ⟨nn,hnn⟩ : ∃ q,nl.length = q:=⟨_,rfl⟩
 have HNN : Hid (nl.length = nn):=hnn
 have HNB : Hid (nn ≤ maxLen):=by unfold Hid; rw [← hnn]; exact own_leD hown
 rw [hnn]
 clear cn hoB hown HX2 HX3 HSx HNX c2x hnn
 have HSx:=HSn
 clear HSn
 by_cases hE : e3 = 0
 case neg =>
  have heb : (e3 != 0) = true:=by simpa using hE
  have HE : Hid (R = (S3,e3)):=by unfold Hid; rw [HF.out]; unfold drRmdir2; rw [if_pos hE]
  have HO : Hid (D.G.Out B w a X S3 wD):=ho3
  clear HF ho3
  go_wp2
  go_ret
  exact ⟨by rw [HE.out]; first | done | rfl,by rw [HE.out]; exact HO.out,by rw [HE.out]; exact o.kmono HK3.out (by omega)⟩
 subst hE
 by_cases hz : 0 < nl.length
 ·have hzn : (0 : Int) < (nn : Int):=by have:=HNN.out; omega
  have HE : Hid (R = (S3,194)):=by unfold Hid; rw [HF.out]; unfold drRmdir2; rw [if_neg (by simp),if_pos hz]
  have HO : Hid (D.G.Out B w a X S3 wD):=ho3
  clear HF ho3 hz
  go_wp2
  go_ret
  exact ⟨by rw [HE.out]; first | done | rfl,by rw [HE.out]; exact HO.out,by rw [HE.out]; exact o.kmono HK3.out (by omega)⟩
 have hzn : ¬ (0 : Int) < (nn : Int):=by have:=HNN.out; omega
 have HF1 : Hid (R = drRmdir3 D xt (drAway D S3 ⟨xi,xn,xt⟩)):=by unfold Hid; rw [HF.out]; unfold drRmdir2; rw [if_neg (by simp),if_neg hz]
 clear HF hz
 have HF:=HF1
 clear HF1
 obtain ⟨X3,hx1,hx2,hx3⟩:=ho3
 have HX2 : Hid (Sole X w wD):=hx2
 have HX3 : Hid (∀ k ∈ X3,k ∈ X ∨ w.heap.size ≤ k):=hx3
 have cw:=takeAway_g o hx1 ⟨xi,xn,xt⟩ HOKx.out HK3.out (by omega)
 have HNX : Hid (gx ∉ X3):=g.sp hx1 HSx.out
 have LD : Hid _:=HSx.out.load
 generalize drAway D S3 ⟨xi,xn,xt⟩ = AR at *
 obtain ⟨S4,e4⟩:=AR
 dsimp only at cw HF
 rw [hspcx] at cw LD
 clear hx1 hx2 hx3
 go_wp2_with (first | (refine wpList_loadG rfl 73 _ rfl _ rfl _ LD.out ?_))
 refine cw.mono ?_
 rintro e wE ⟨rfl,hoB,hkB⟩
 have HK4 : Hid (D.Kp s0 S4 (n + 7 + 1 + 2)):=hkB
 have HSn : Hid (SptAt wE gx ⟨xi,xn,xt⟩):=HSx.out.sole hoB.sole HNX.out
 have ho3:=Sgt.Out.then HX2.out HX3.out hoB
 clear cw hoB hkB HX2 HX3 HSx HNX LD
 have HSx:=HSn
 clear HSn
 by_cases hE : e4 = 0
 case neg =>
  have heb : (e4 != 0) = true:=by simpa using hE
  have HE : Hid (R = (S4,e4)):=by unfold Hid; rw [HF.out]; unfold drRmdir3; rw [if_pos hE]
  have HO : Hid (D.G.Out B w a X S4 wE):=ho3
  clear HF ho3
  go_wp2
  go_ret
  exact ⟨by rw [HE.out]; first | done | rfl,by rw [HE.out]; exact HO.out,by rw [HE.out]; exact o.kmono HK4.out (by omega)⟩
 subst hE
 have HF1 : Hid (R = D.rm S4 xt):=by unfold Hid; rw [HF.out]; unfold drRmdir3; rw [if_neg (by simp)]
 clear HF
 have HF:=HF1
 clear HF1
 obtain ⟨X4,hx1,hx2,hx3⟩:=ho3
 have HX2 : Hid (Sole X w wE):=hx2
 have HX3 : Hid (∀ k ∈ X4,k ∈ X ∨ w.heap.size ≤ k):=hx3
 have cl:=o.rms hx1 xt HOKx.out.t0 HOKx.out.t1 HK4.out.k (by omega)
 have HK5 : Hid (D.Kp s0 (D.rm S4 xt).1 (n + 7 + 1 + 2 + 20)):=⟨o.bD hx1 HK4.out.k _,o.jD hx1 HK4.out.j xt HOKx.out.t0 HOKx.out.t1⟩
 have c2x:=HSx.out.c2
 generalize D.rm S4 xt = LR at *
 obtain ⟨S5,e5⟩:=LR
 dsimp only at cl HF HK5
 clear hx1 hx2 hx3
 go_wp2_with fail
 refine cl.mono ?_
 rintro e wF ⟨rfl,hoE⟩
 have HO : Hid (D.G.Out B w a X S5 wF):=Sgt.Out.then HX2.out HX3.out hoE
 have HE : Hid (R = (S5,e5)):=HF.out
 clear cl hoE HX2 HX3 c2x
 go_wp2
 go_ret
 exact ⟨by rw [HE.out]; first | done | rfl,by rw [HE.out]; exact HO.out,by rw [HE.out]; exact o.kmono HK5.out (by omega)⟩
end Go.Proofs.YtgajjphjkbnaeaaGreat
