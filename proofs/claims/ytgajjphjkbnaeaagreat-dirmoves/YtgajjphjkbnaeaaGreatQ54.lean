/- DrQ, DrY, DrM, DrO, DrR: in one text. -/
import Derived.Test.YtgajjphjkbnaeaaGreatQ53
namespace Go.Proofs.YtgajjphjkbnaeaaGreat
open Go.RowKit
set_option linter.unusedVariables false
set_option maxHeartbeats 32000000
set_option maxRecDepth 100000
set_option linter.unusedSimpArgs false
open Go.RowKit Go.Maps
def dX (s : Sg) (k : Int) (x : ByteArray) : Int:=(vgR s.l s.d (entP k x)).2.2
theorem pl_ent {k : Int} {x : ByteArray} (hk : k ≠ 0) (hx : nameOk x = true) : plOk (entP k x) = true:=by
 unfold plOk entP
 simp [hk,hx]
theorem dX_0 {s : Sg} (hl : s.l = rootL) (hd : DlOk s.d) {k : Int} {x : ByteArray} (hk : k ≠ 0) (hx : nameOk x = true) : dX s k x = 0:=by
 have hp:=pl_ent hk hx
 unfold dX vgR
 rw [hl]
 unfold isX wasX
 cases hg : getL s.d.L (entP k x) with
 | none =>
  show stE rootL (entP k x) = 0
  unfold stE
  rw [hp,if_pos rfl,base_fd hp,if_neg (by simp)]
 | some c =>
  obtain ⟨_,e⟩:=(getL_some hd.L.rise).1 hg
  show (chL rootL c).2.2 = 0
  unfold chL chR
  have h2 : c.pl.part = 2:=by rw [e]; rfl
  split
  ·rfl
  split
  ·rfl
  first | rfl | (rw [if_pos h2])
theorem isX_put {d : Dl} (hd : DlOk d) {c : Cg} (hc : CgOk c) {q : Pl} (h : isX d q = true) : isX (putS d c) q = true:=by
 by_cases h0 : (putX d c).2 = 0
 ·have hL : (putS d c).L = setL d.L (putX d c).1:=by unfold putS; rw [if_pos h0]
  unfold isX
  rw [hL,getL_set hd.L (putX_ok hd hc) q]
  split
  ·rfl
  ·exact h
 ·rw [putS_err h0]; exact h
theorem isX_self {d : Dl} (hd : DlOk d) {c : Cg} (hc : CgOk c) (h0 : (putX d c).2 = 0) : isX (putS d c) c.pl = true:=by
 have hL : (putS d c).L = setL d.L (putX d c).1:=by unfold putS; rw [if_pos h0]
 unfold isX
 rw [hL,getL_set hd.L (putX_ok hd hc) c.pl,putX_pl h0,if_pos (plEq_iff.2 rfl)]
 rfl
theorem putX_gone {d : Dl} (hd : DlOk d) (hc : CksOk d) {p : Pl} (h : isX d p = true) (hp : plOk p = true) : (putX d (goneC p)).2 = 0:=by
 unfold isX at h
 cases hg : getL d.L p with
 | none => rw [hg] at h; cases h
 | some c =>
  obtain ⟨hm,e⟩:=(getL_some hd.L.rise).1 hg
  have h1 : ckOk (goneC p) = true:=by
   unfold ckOk
   rw [show (goneC p).pl = p from rfl,hp,if_pos rfl,if_pos (show (goneC p).gone = true from rfl)]
   exact cgEq_iff.2 rfl
  have h2:=hc c hm
  show (behX d (wasX d p) (isX d p) (goneC p)).2 = 0
  unfold behX
  rw [if_pos h1]
  have hw : wasX d p = c:=by unfold wasX; rw [hg]; rfl
  have hi : isX d p = true:=by unfold isX; rw [hg]; rfl
  rw [hi,if_pos rfl,hw]
  unfold joinX
  rw [if_pos h2,if_pos h1,if_pos (show plEq c.pl (goneC p).pl = true from plEq_iff.2 e),if_pos (show (goneC p).gone = true from rfl)]
theorem pus_put {d : Dl} {c : Cg} (h0 : (putX d c).2 = 0) : (putS d c).pus.length = d.pus.length + 1:=by
 unfold putS
 rw [if_pos h0,List.length_append]
 rfl
structure Kept (N : Int) (s s' : Sg) : Prop where
 E : ∀ a b,dE s a b ≠ 0 → dE s' a b = dE s a b
 F : ∀ u,u < N → dD s u → fdR s' u = fdR s u
 lt : ∀ a b,dE s a b < N
 one : 1 < N
 l : s'.l = rootL
 d : DlOk s'.d
theorem Kept.vs {N : Int} {s s' t t' : Sg} (h : Kept N s s') (a : Vs s t) (b : Vs s' t') : Kept N t t':=by
 refine ⟨fun p q => ?_,fun u hn hu => ?_,fun p q => by rw [a.e]; exact h.lt p q,h.one,b.l.trans h.l,by rw [b.d]; exact h.d⟩
 ·rw [a.e,b.e]; exact h.E p q
 ·rw [a.f,b.f]; exact h.F u hn (dD_of (a.f u) hu)
theorem Kept.refl {s : Sg} (hl : s.l = rootL) (hd : DlOk s.d) : Kept 4294967296 s s:=⟨fun _ _ _ => rfl,fun _ _ _ => rfl,fun a b => by have:=(dE_bd hd a b).2; omega,by decide,hl,hd⟩
theorem dD_ne {s : Sg} {t : Int} (h : dD s t) : t ≠ 0:=fun e => by
 subst e
 exact absurd h.1 (by unfold fdR fdF; rw [if_pos rfl]; decide)
theorem look_kept {N : Int} {s s' : Sg} (K : Kept N s s') {t : Int} (ht : t < N) (hd : dD s t) {x : ByteArray} (hx : nameOk x = true) : (dnL s' t x).2 = (dE s' t x,0) ∧ dnK s' t = 0:=by
 have hk : dnK s' t = 0:=by
  rw [dnK_eq,K.F t ht hd,if_neg (by simpa using hd.1),if_neg hd.2]
 refine ⟨?_,hk⟩
 rw [dnL_eq,if_neg (by simpa using hk)]
 have h0:=dX_0 K.l K.d (dD_ne hd) hx
 unfold dX at h0
 show ((vgR s'.l s'.d (entP t x)).1.lead,(vgR s'.l s'.d (entP t x)).2.2) = _
 rw [h0]
 rfl
theorem step_kept {N : Int} {s s' : Sg} (K : Kept N s s') {t : Int} (ht : t < N) {x : ByteArray} (hx : nameOk x = true) (h : (dnS s t x).2.2 = 0) : (dnS s' t x).2 = (dnS s t x).2:=by
 obtain ⟨q1,q2,q3,q4⟩:=step_good h
 obtain ⟨e,_⟩:=look_kept K ht q4 hx
 rw [K.E t x q3] at e
 have e2 : (dnS s' t x).2 = (dnL s' t x).2:=by
  rw [dnS_eq,e,if_neg (fun k => q3 k.2)]
  exact e
 rw [e2,e]
 exact Prod.ext q2.symm h.symm
theorem step_st {s : Sg} {t : Int} {x : ByteArray} : Vs s (dnS s t x).1:=by
 rw [stepS]
 split
 ·exact Vs.refl s
 ·exact ⟨rfl,rfl,rfl⟩
theorem down_kept : ∀ (ns : List ByteArray) {N : Int} {s s' : Sg},Kept N s s' → ∀ {t : Int},t < N → (∀ x ∈ ns,nameOk x = true) → (dnD ns s t).2.2 = 0 → (dnD ns s' t).2 = (dnD ns s t).2
 | [],N,s,s',K,t,ht,hn,h => rfl
 | x :: ns,N,s,s',K,t,ht,hn,h => by
  rw [dnD_eq] at h ⊢
  rw [dnD_eq]
  by_cases hc : (dnS s t x).2.2 ≠ 0
  ·rw [if_pos hc] at h; exact absurd h hc
  rw [if_neg hc] at h ⊢
  have e:=step_kept K ht (hn x List.mem_cons_self) (Decidable.not_not.1 hc)
  rw [e,if_neg hc]
  obtain ⟨_,g2,_,_⟩:=step_good (Decidable.not_not.1 hc)
  exact down_kept ns (K.vs step_st step_st) (by rw [g2]; exact K.lt t x) (fun y hy => hn y (List.mem_cons_of_mem _ hy)) h
theorem down_app : ∀ (ns ms : List ByteArray) (s : Sg) (t : Int),(dnD ns s t).2.2 = 0 → dnD (ns ++ ms) s t = dnD ms (dnD ns s t).1 (dnD ns s t).2.1
 | [],ms,s,t,h => rfl
 | x :: ns,ms,s,t,h => by
  rw [List.cons_append,dnD_eq]
  rw [dnD_eq] at h ⊢
  by_cases hc : (dnS s t x).2.2 ≠ 0
  ·rw [if_pos hc] at h; exact absurd h hc
  rw [if_neg hc] at h
  rw [if_neg hc,if_neg hc]
  exact down_app ns ms _ _ h
theorem par_sp {p : ByteArray} (h : parE p = 0) : pathE p = 0 ∧ pathL p = parL p ++ [parN p]:=⟨(par_split h).1,(par_split h).2.symm⟩
theorem par_names {p : ByteArray} (h : parE p = 0) : (∀ x ∈ parL p,nameOk x = true) ∧ nameOk (parN p) = true:=by
 obtain ⟨h1,h2⟩:=par_sp h
 have h3:=path_names h1
 rw [h2] at h3
 exact ⟨fun x hx => h3 x (List.mem_append_left _ hx),h3 _ (List.mem_append_right _ List.mem_cons_self)⟩
theorem spot_at {s : Sg} {p : ByteArray} (h : (drSpot DgP s p).2.2 = 0) : parE p = 0 ∧ (dnD (parL p) s 1).2.2 = 0 ∧ dD s (drSpot DgP s p).2.1.ino ∧ (drSpot DgP s p).2.1.ino = (dnD (parL p) s 1).2.1 ∧ (drSpot DgP s p).2.1.name = parN p ∧ (drSpot DgP s p).2.1.to = dE s (drSpot DgP s p).2.1.ino (parN p):=by
 obtain ⟨h0,h1,h2,e⟩:=drSpot_cases (D:=DgP) h
 obtain ⟨e1,e2⟩:=drLook_E h2
 have hv:=drDown_vs (parL p) s 1
 refine ⟨h0,h1,?_,by rw [e]; rfl,by rw [e],?_⟩
 ·rw [e]; exact dD_of (hv.f _) e2
 ·rw [e]
  exact e1.trans (hv.e _ _)
theorem spot_kept {N : Int} {s s' : Sg} (K : Kept N s s') {p : ByteArray} (h : (drSpot DgP s p).2.2 = 0) : (drSpot DgP s' p).2 = (⟨(drSpot DgP s p).2.1.ino,parN p,dE s' (drSpot DgP s p).2.1.ino (parN p)⟩,0):=by
 obtain ⟨h0,h1,h2,h3,h4,h5⟩:=spot_at h
 obtain ⟨n1,n2⟩:=par_names h0
 have hd:=down_kept (parL p) K (t:=1) K.one n1 h1
 have hio : (drSpot DgP s p).2.1.ino < N:=by
  rcases drSpot_in h with e | ⟨k,x,e⟩
  ·rw [e]; exact K.one
  ·rw [e]; exact K.lt k x
 have hv : Vs s' (dnD (parL p) s' 1).1:=drDown_vs (parL p) s' 1
 have hv0 : Vs s (dnD (parL p) s 1).1:=drDown_vs (parL p) s 1
 have hl:=(look_kept (K.vs (Vs.refl s) hv) (t:=(drSpot DgP s p).2.1.ino) hio h2 n2).1
 rw [hv.e] at hl
 have e1 : drSpot DgP s' p = drSpot1 DgP (parN p) (dnD (parL p) s' 1):=if_neg (by simpa using h0)
 have e2 : drSpot1 DgP (parN p) (dnD (parL p) s' 1) = drSpot2 DgP (dnD (parL p) s' 1).2.1 (parN p) (dnL (dnD (parL p) s' 1).1 (dnD (parL p) s' 1).2.1 (parN p)):=if_neg (by rw [hd,h1]; simp)
 have e3 : (dnD (parL p) s' 1).2.1 = (drSpot DgP s p).2.1.ino:=by rw [hd,h3]
 rw [e1,e2,e3]
 have e4 : drSpot2 DgP (drSpot DgP s p).2.1.ino (parN p) (dnL (dnD (parL p) s' 1).1 (drSpot DgP s p).2.1.ino (parN p)) = ((dnL (dnD (parL p) s' 1).1 (drSpot DgP s p).2.1.ino (parN p)).1,⟨(drSpot DgP s p).2.1.ino,parN p,(dnL (dnD (parL p) s' 1).1 (drSpot DgP s p).2.1.ino (parN p)).2.1⟩,0):=if_neg (by rw [hl]; simp)
 rw [e4,hl]
theorem find_spot {s : Sg} (hl : s.l = rootL) (hd : DlOk s.d) {p : ByteArray} (h : (drSpot DgP s p).2.2 = 0) : (drFind DgP s p).2 = if (drSpot DgP s p).2.1.to = 0 then (0,190) else ((drSpot DgP s p).2.1.to,0):=by
 obtain ⟨h0,h1,h2,h3,h4,h5⟩:=spot_at h
 obtain ⟨g1,g2⟩:=par_sp h0
 obtain ⟨n1,n2⟩:=par_names h0
 have hv : Vs s (dnD (parL p) s 1).1:=drDown_vs (parL p) s 1
 have e1 : (drFind DgP s p).2 = (dnD (pathL p) s 1).2:=congrArg Prod.snd (if_neg (by simpa using g1))
 rw [e1,g2,down_app (parL p) [parN p] s 1 h1,← h3]
 have hk:=(look_kept ((Kept.refl hl hd).vs (Vs.refl s) hv) (t:=(drSpot DgP s p).2.1.ino) (by have:=(drSpot_ok hd h).1.i1; omega) h2 n2).1
 rw [hv.e,← h5] at hk
 generalize (drSpot DgP s p).2.1.ino = io at *
 generalize (drSpot DgP s p).2.1.to = tt at *
 generalize (dnD (parL p) s 1).1 = S at *
 rw [dnD_eq]
 by_cases ht : tt = 0
 ·have e2 : (dnS S io (parN p)).2 = (0,190):=by
   rw [dnS_eq,hk,if_pos ⟨rfl,ht⟩]
  rw [e2,if_pos (by decide),if_pos ht]
 ·have e2 : (dnS S io (parN p)).2 = (tt,0):=by
   rw [dnS_eq,hk,if_neg (fun q => ht q.2),hk]
  rw [e2,if_neg (by simp),if_neg ht]
  rfl
structure Rk (s : Sg) : Prop where
 l : s.l = rootL
 j : Jv s
 iv : Iv s
theorem Rk.vs {s t : Sg} (h : Rk s) (v : Vs s t) : Rk t:=⟨v.l.trans h.l,h.j.back v.l v.d,h.iv.same v.l v.d⟩
theorem wr_eff {s : Sg} (h : Rk s) {ino : Int} {name : ByteArray} {c : Cg} (hc : CgOk c) (hp : c.pl = entP ino name) (h0 : (drWrite DgP s ino name c).2 = 0) :
  Rk (drWrite DgP s ino name c).1 ∧ (∀ q,isX s.d q = true → isX (drWrite DgP s ino name c).1.d q = true) ∧ isX (drWrite DgP s ino name c).1.d (entP ino name) = true ∧ (drWrite DgP s ino name c).1.d.pus.length = s.d.pus.length + 1:=by
 obtain ⟨h1,e⟩:=dw_ok h0
 have hj:=dw_jv h.j hc h0
 rw [e] at hj ⊢
 refine ⟨⟨h.l,hj,(h.iv.ent hc (by rw [hp]; rfl)).same rfl rfl⟩,fun q hq => isX_put h.iv.d hc hq,?_,pus_put h1⟩
 have:=isX_self h.iv.d hc h1
 rw [hp] at this
 exact this
structure Md (s s' : Sg) (io : Int) (x : ByteArray) (t : Int) : Prop where
 rk : Rk s'
 e : ∀ a b,dE s' a b = if a = io ∧ b = x then t else dE s a b
 f : ∀ u,u ≠ t → fdR s' u = fdR s u
 px : isX s'.d (entP io x) = true
 pr : isX s'.d (recP t) = true
theorem Md.kept {s s' : Sg} {io t : Int} {x : ByteArray} (h : Md s s' io x t) (h0 : dE s io x = 0) (hlt : ∀ a b,dE s a b < t) (h1 : 1 < t) : Kept t s s':=by
 refine ⟨fun a b hn => ?_,fun u hn _ => h.f u (by omega),hlt,h1,h.rk.l,h.rk.iv.d⟩
 rw [h.e,if_neg (fun q => hn (by rw [q.1,q.2]; exact h0))]
theorem Md.vs {s s' s'' : Sg} {io t : Int} {x : ByteArray} (h : Md s s' io x t) (v : Vs s' s'') : Md s s'' io x t :=
 ⟨h.rk.vs v,fun a b => by rw [v.e]; exact h.e a b,fun u hu => by rw [v.f]; exact h.f u hu,by rw [v.d]; exact h.px,by rw [v.d]; exact h.pr⟩
theorem fd_made {l : List (ByteArray × ByteArray)} {d : Dl} (hd : DlOk d) (hc : CksOk d) {n k m : Int} (hn : n ≠ 0) (hcg : CgOk (freshC (recP n) k m 1 0)) (h0 : (putX d (freshC (recP n) k m 1 0)).2 = 0) : fdF n (vgR l (putS d (freshC (recP n) k m 1 0)) (recP n)) = (⟨k,m,1,0⟩,0):=by
 rw [vg_p hd hc hcg,if_pos ⟨h0,plEq_iff.2 rfl⟩]
 have e : aft (vgR l d (freshC (recP n) k m 1 0).pl) (freshC (recP n) k m 1 0) = (freshI (freshC (recP n) k m 1 0),true,0):=rfl
 rw [e]
 unfold fdF
 rw [if_neg hn,if_neg (by simp),if_pos rfl]
 rfl
theorem spot_free {s : Sg} {p : ByteArray} (h : (drFree DgP s p).2.2 = 0) : (drSpot DgP s p).2.2 = 0 ∧ (drSpot DgP s p).2.1.to = 0 ∧ drFree DgP s p = drSpot DgP s p:=by
 obtain ⟨h1,e⟩:=drFree_cases (D:=DgP) h
 refine ⟨h1,?_,e⟩
 have h' : (drFree1 DgP (drSpot DgP s p)).2.2 = 0:=h
 unfold drFree1 at h'
 by_cases hc : (drSpot DgP s p).2.1.to = 0
 ·exact hc
 ·rw [if_pos ⟨h1,hc⟩] at h'; exact absurd h' (show ¬ (191 : Int) = 0 by decide)
theorem make_md {i : Nat} {s : Sg} (nv : Nv i s) (rk : Rk s) (hi : i ≤ 60) {p : ByteArray} {k m : Int} (he : (drMake DgP s p k m).2.2 = 0) :
  (drMake DgP s p k m).2.1 = s.n ∧ (drSpot DgP s p).2.2 = 0 ∧ dE s (drSpot DgP s p).2.1.ino (parN p) = 0 ∧ Md s (drMake DgP s p k m).1 (drSpot DgP s p).2.1.ino (parN p) s.n ∧ fdR (drMake DgP s p k m).1 s.n = (⟨k,m,1,0⟩,0) ∧ s.d.pus.length < (drMake DgP s p k m).1.d.pus.length ∧ inoOk k m 1 0 = true:=by
 obtain ⟨h1,h2,h3,e⟩:=mk_cases (D:=DgP) he
 obtain ⟨g1,g2,g3⟩:=spot_free h1
 obtain ⟨_,_,_,_,g4,g5⟩:=spot_at g1
 have hv:=drFree_vs s p
 have hx:=drFree_ok rk.iv.d h1
 have hlt:=nv.free h1
 have e2 : (drMake DgP s p k m).2.1 = (DgP.mak (drFree DgP s p).1 k m).2.1:=by
  have q : drMake DgP s p k m = drMake1 DgP (drFree DgP s p).2.1 (DgP.mak (drFree DgP s p).1 k m):=if_neg (by simpa using h1)
  have q2 : drMake1 DgP (drFree DgP s p).2.1 (DgP.mak (drFree DgP s p).1 k m) = drMake2 DgP (DgP.mak (drFree DgP s p).1 k m).2.1 (drSet DgP (DgP.mak (drFree DgP s p).1 k m).1 (drFree DgP s p).2.1 (DgP.mak (drFree DgP s p).1 k m).2.1):=if_neg (by simpa using h2)
  have q3 : drMake2 DgP (DgP.mak (drFree DgP s p).1 k m).2.1 (drSet DgP (DgP.mak (drFree DgP s p).1 k m).1 (drFree DgP s p).2.1 (DgP.mak (drFree DgP s p).1 k m).2.1) = ((drSet DgP (DgP.mak (drFree DgP s p).1 k m).1 (drFree DgP s p).2.1 (DgP.mak (drFree DgP s p).1 k m).2.1).1,(DgP.mak (drFree DgP s p).1 k m).2.1,0):=if_neg (by simpa using h3)
  rw [q,q2,q3]
 have g6 : dE s (drSpot DgP s p).2.1.ino (parN p) = 0:=by rw [← g5]; exact g2
 rw [← g3] at g4 g6 ⊢
 rw [e,e2]
 refine ⟨?_,by rw [h1],g6,?_⟩
 ·obtain ⟨_,_,a3⟩:=mak_0 h2
  have a4 : DgP.mak (drFree DgP s p).1 k m = (makS (drFree DgP s p).1 k m,Sg.n (drFree DgP s p).1,0):=a3
  rw [a4]; exact hv.n
 clear e e2 g1 g2 g3 g5
 rw [← g4] at g6 ⊢
 generalize drFree DgP s p = FR at *
 obtain ⟨s1,x,e1⟩:=FR
 change Sg at s1
 dsimp only at *
 have m0:=nv.n0
 have m1:=nv.n1
 have hn : s1.n = s.n:=hv.n
 have rk1:=rk.vs hv
 obtain ⟨a1,a2,a3⟩:=mak_0 h2
 obtain ⟨q1,q2,q3,q4⟩:=mak_E rk1.iv (by omega) (by omega) h2
 have a4 : DgP.mak s1 k m = (makS s1 k m,s1.n,0):=a3
 rw [a4] at h3 ⊢
 have hmc : CgOk (makC s1 k m):=makC_ok (by omega) (by omega) a1
 have rk2 : Rk (makS s1 k m):=⟨rk1.l,Jv_cl.nx (Jv_cl.put rk1.j hmc),q4⟩
 have hc : CgOk (toC x.ino x.name s1.n):=toC_ok hx.i0 hx.i1 hx.n8 (by omega) (by omega)
 have h3' : (drWrite DgP (makS s1 k m) x.ino x.name (toC x.ino x.name s1.n)).2 = 0:=h3
 obtain ⟨w1,w2,w3,w4⟩:=ent_set q4 hc h3'
 obtain ⟨v1,v2,v3,v4⟩:=wr_eff rk2 hc rfl h3'
 have hF : fdR (makS s1 k m) s.n = (⟨k,m,1,0⟩,0):=by
  show fdF s.n (vgR s1.l (putS s1.d (makC s1 k m)) (recP s.n)) = _
  unfold makC
  unfold makC at a2 hmc
  rw [hn] at a2 hmc ⊢
  exact fd_made rk1.iv.d rk1.iv.c (by omega) hmc a2
 show Md s (drWrite DgP (makS s1 k m) x.ino x.name (toC x.ino x.name s1.n)).1 x.ino x.name s.n ∧ fdR (drWrite DgP (makS s1 k m) x.ino x.name (toC x.ino x.name s1.n)).1 s.n = _ ∧ s.d.pus.length < (drWrite DgP (makS s1 k m) x.ino x.name (toC x.ino x.name s1.n)).1.d.pus.length ∧ _
 refine ⟨⟨v1,fun a b => ?_,fun u hu => ?_,v3,v2 _ ?_⟩,?_,?_,a1⟩
 ·rw [w1,q1,hv.e,hn]
 ·rw [w2,q2 u (by omega),hv.f]
 ·have:=isX_self rk1.iv.d hmc a2
  rw [show (makC s1 k m).pl = recP s1.n from rfl,hn] at this
  exact this
 ·rw [w2]; exact hF
 ·rw [v4]
  have : (makS s1 k m).d.pus.length = s1.d.pus.length + 1:=pus_put a2
  have e3 : s1.d = s.d:=hv.d
  rw [this,e3]; omega
theorem seg_none : (List.range 100).all (fun n => decide (n < 2) || (nmS ((rootL.drop (fdN rootL (spF (n : Int) 2))).takeWhile fun p => ltS p.1 (spT (n : Int) 2))).isEmpty) = true:=by kernel_rfl
theorem fd_stale {n : Int} (h : n ≠ 0) (v : It × Bool × Int) (p : Pl) : (fdF n (aft v (goneC p))).2 = 220:=by
 have e : aft v (goneC p) = (it0,false,0):=rfl
 rw [e]
 unfold fdF
 rw [if_neg h]
 simp
def lC (t L : Int) : Cg:=fieldsC (recP t) 2 0 0 L 0
theorem lC_ok {t L : Int} (h0 : 0 ≤ t) (h1 : t ≤ 4294967295) (hL : 1 ≤ L ∧ L ≤ 15) : CgOk (lC t L) :=
 ⟨recP_ok h0 h1,by simp [lC,fieldsC],by simp [lC,fieldsC],⟨by simp [lC,fieldsC],by simp [lC,fieldsC],by simp [lC,fieldsC],by simp [lC,fieldsC],by simp only [lC,fieldsC]; omega,by simp only [lC,fieldsC]; omega,by simp [lC,fieldsC],by simp [lC,fieldsC]⟩,by simp [lC,fieldsC],by simp [lC,fieldsC],pt0_ok⟩
theorem lC_m (t L m : Int) : wM (lC t L) m = m:=if_neg (by show ¬ bF 2 1 = true; decide)
theorem lC_l (t L l : Int) : wL (lC t L) l = L:=if_pos (by show bF 2 2 = true; decide)
theorem lC_s (t L z : Int) : wS (lC t L) z = z:=if_neg (by show ¬ bF 2 4 = true; decide)
theorem fd_inv {t : Int} {v : It × Bool × Int} {i : In4} (h : fdF t v = (i,0)) : t ≠ 0 ∧ v.2.2 = 0 ∧ v.2.1 = true ∧ i = ⟨v.1.kind,v.1.mode,v.1.links,v.1.size⟩:=by
 unfold fdF at h
 by_cases ht : t = 0
 ·rw [if_pos ht] at h; cases h
 rw [if_neg ht] at h
 by_cases hv : v.2.2 ≠ 0
 ·rw [if_pos hv] at h
  exact absurd (congrArg Prod.snd h) hv
 rw [if_neg hv] at h
 cases hb : v.2.1 with
 | false => rw [hb,if_neg (by simp)] at h; cases h
 | true =>
  rw [hb,if_pos rfl] at h
  exact ⟨ht,Decidable.not_not.1 hv,rfl,(congrArg Prod.fst h).symm⟩
theorem wf_l (i : In4) (L : Int) : wfR i [(2,L)] = (⟨i.k,i.m,L,i.s⟩,2,true):=by
 unfold wfR wfL
 simp [wf1,show (bits BinOp.and .i64 0 2) = 0 by decide,show bits BinOp.or .i64 0 2 = 2 by decide]
theorem set_e {s : Sg} {t m l z L : Int} (hf : fdR s t = (⟨1,m,l,z⟩,0)) : setR s t [(2,L)] = if inoOk 1 m L z = false then (s,1) else if (putX s.d (lC t L)).2 ≠ 0 then ({ s with d:=putS s.d (lC t L) },(putX s.d (lC t L)).2) else ({ s with d:=putS s.d (lC t L),U:=addK s.U t (kindsL 2) },0):=by
 unfold setR
 rw [hf,wf_l,wf_l]
 unfold setF
 rw [if_neg (by simp)]
 show (if (true && inoOk 1 m L z) = false then _ else if (2 : Int) = 0 then _ else _) = _
 rw [Bool.true_and,if_neg (show ¬ (2 : Int) = 0 by decide)]
 rfl
theorem fd_set {s t' : Sg} (iv : Iv s) {t m l z L : Int} (h0 : 0 ≤ t) (h1 : t ≤ 4294967295) (hf : fdR s t = (⟨1,m,l,z⟩,0)) (hL : 1 ≤ L ∧ L ≤ 15) (hp : (putX s.d (lC t L)).2 = 0) (el : t'.l = s.l) (ed : t'.d = putS s.d (lC t L)) : fdR t' t = (⟨1,m,L,z⟩,0):=by
 obtain ⟨q1,q2,q3,q4⟩:=fd_inv hf
 unfold fdR
 rw [el,ed,vg_p iv.d iv.c (lC_ok h0 h1 hL),if_pos ⟨hp,plEq_iff.2 rfl⟩]
 show fdF t (aft (vgR s.l s.d (recP t)) (lC t L)) = _
 generalize vgR s.l s.d (recP t) = v at *
 obtain ⟨x,b,e⟩:=v
 dsimp only at q2 q3 q4
 subst q2 q3
 have hA : refA (lC t L) = false:=rfl
 rw [aft_on hA rfl]
 have e1 : refW x true (lC t L) = (⟨x.kind,wM (lC t L) x.mode,wL (lC t L) x.links,wS (lC t L) x.size,x.lead,x.bytes⟩,true,0):=rfl
 show fdF t (refW x true (lC t L)) = _
 rw [e1,lC_m,lC_l,lC_s]
 simp only [In4.mk.injEq] at q4
 obtain ⟨k1,rfl,rfl,rfl⟩:=q4
 unfold fdF
 rw [if_neg q1,if_neg (by simp),if_pos rfl,k1]
theorem lk_e {s : Sg} {t m l z y : Int} (hf : fdR s t = (⟨1,m,l,z⟩,0)) (hb : 1 ≤ l + y ∧ l + y ≤ 15) (hy : y ≠ 0) : lkR s t y = lkE (setR { s with R:=addK s.R t [2] } t [(2,l + y)]) (l + y):=by
 unfold lkR
 rw [hf,if_neg (by simp),if_neg (by simp)]
 unfold lkB
 dsimp only
 rw [if_neg (by omega),if_neg (by omega),if_neg hy]
theorem lk_can {s : Sg} (iv : Iv s) {t m l z y : Int} (h0 : 0 ≤ t) (h1 : t ≤ 4294967295) (hf : fdR s t = (⟨1,m,l,z⟩,0)) (hb : 1 ≤ l + y ∧ l + y ≤ 15) (hy : y ≠ 0) (hp : (putX s.d (lC t (l + y))).2 = 0) : (lkR s t y).2.2 = 0 ∧ (lkR s t y).1.l = s.l ∧ (lkR s t y).1.d = putS s.d (lC t (l + y)) ∧ fdR (lkR s t y).1 t = (⟨1,m,l + y,z⟩,0):=by
 have hok : inoOk 1 m (l + y) z = true:=by
  have h : (fdR s t).2 = 0:=by rw [hf]
  have q:=iv.ok t h
  rw [hf] at q
  obtain ⟨b1,b2⟩:=ino_iff.1 q
  refine ino_iff.2 ⟨b1,.inl ⟨rfl,hb.1,hb.2,?_⟩⟩
  rcases b2 with ⟨_,_,_,q⟩ | ⟨q,_⟩
  ·exact q
  ·exact absurd q (show ¬ (1 : Int) = 2 by decide)
 have e1:=set_e (s:={ s with R:=addK s.R t [2] }) (L:=l + y) hf
 rw [if_neg (by rw [hok]; simp),if_neg (by show ¬ (putX s.d (lC t (l + y))).2 ≠ 0; rw [hp]; simp)] at e1
 rw [lk_e hf hb hy,e1]
 unfold lkE
 rw [if_neg (by simp)]
 exact ⟨rfl,rfl,rfl,fd_set iv h0 h1 hf hb hp rfl rfl⟩
theorem lk_was {s : Sg} {t m l z : Int} (hl : 1 ≤ l) (hf : fdR s t = (⟨1,m,l,z⟩,0)) (h : (lkR s t 1).2.2 = 0) : l + 1 ≤ 15 ∧ (putX s.d (lC t (l + 1))).2 = 0:=by
 by_cases hb : l + 1 ≤ 15
 case neg =>
  exfalso
  have e : lkR s t 1 = ({ s with R:=addK s.R t [2] },0,170):=by
   unfold lkR
   rw [hf,if_neg (by simp),if_neg (by simp)]
   unfold lkB
   dsimp only
   rw [if_pos (by omega)]
  rw [e] at h
  exact absurd h (show ¬ (170 : Int) = 0 by decide)
 refine ⟨hb,Decidable.by_contra fun hp => ?_⟩
 have e1:=set_e (s:={ s with R:=addK s.R t [2] }) (L:=l + 1) hf
 rw [lk_e hf ⟨by omega,hb⟩ (by decide),e1] at h
 have hp' : (putX ({ s with R:=addK s.R t [2] } : Sg).d (lC t (l + 1))).2 ≠ 0:=hp
 by_cases hi : inoOk 1 m (l + 1) z = false
 ·rw [if_pos hi] at h
  exact absurd h (show ¬ (1 : Int) = 0 by decide)
 ·rw [if_neg hi,if_pos hp'] at h
  unfold lkE at h
  rw [if_pos hp'] at h
  exact hp' h
theorem Vs.symm {s t : Sg} (h : Vs s t) : Vs t s:=⟨h.l.symm,h.d.symm,h.n.symm⟩
theorem downs_vs : ∀ (ns : List ByteArray) {s s' : Sg},Vs s s' → ∀ t : Int,(dnD ns s' t).2 = (dnD ns s t).2
 | [],s,s',h,t => rfl
 | x :: ns,s,s',h,t => by
  rw [dnD_eq,dnD_eq,step_vs h]
  by_cases hc : (dnS s t x).2.2 ≠ 0
  ·rw [if_pos hc,if_pos hc]
  ·rw [if_neg hc,if_neg hc]
   exact downs_vs ns ((step_st (s:=s) (t:=t) (x:=x)).symm.trans (h.trans (step_st (s:=s') (t:=t) (x:=x)))) _
theorem find_vs {s s' : Sg} (h : Vs s s') (p : ByteArray) : (drFind DgP s' p).2 = (drFind DgP s p).2:=by
 unfold drFind
 by_cases hE : pathE p ≠ 0
 ·rw [if_pos hE,if_pos hE]
 ·rw [if_neg hE,if_neg hE]
  exact downs_vs _ h 1
theorem link_md {j : Nat} {s : Sg} (nv : Nv j s) (rk : Rk s) (hj : j ≤ 40) {old p : ByteArray} (he : (drLink DgP s old p).2 = 0) :
  ∃ ino m l z,(drFind DgP s old).2 = (ino,0) ∧ 2 ≤ ino ∧ ino < s.n ∧ fdR s ino = (⟨1,m,l,z⟩,0) ∧ 1 ≤ l ∧ l + 1 ≤ 15 ∧ (drSpot DgP s p).2.2 = 0 ∧ dE s (drSpot DgP s p).2.1.ino (parN p) = 0 ∧ Md s (drLink DgP s old p).1 (drSpot DgP s p).2.1.ino (parN p) ino ∧ fdR (drLink DgP s old p).1 ino = (⟨1,m,l + 1,z⟩,0):=by
 obtain ⟨s1,ino,s2,x,s3,y,hf,hk,hg,hl,hs,e⟩:=lk_cases (D:=DgP) he
 rw [e]
 have m1:=nv.n1
 have hv1:=drFind_vs s old
 have hin:=drFind_E (s:=s) (p:=old) (by rw [hf])
 rw [hf] at hv1 hin
 obtain ⟨k1,k2⟩:=drKind_0 (by decide) hk
 dsimp only at hv1 hin
 rw [hv1.f] at k1 k2
 have hk1 : (fdR s ino).1.k = 1:=by rcases nv.kd k1 with e | e; exact e; exact absurd e k2
 have hlt : ino < s.n ∧ ino ≠ 1:=by
  rcases hin with e1 | ⟨a,b,e1⟩
  ·exfalso; rw [e1] at hk1; exact nv.rt.2 hk1
  ·rw [e1]; exact ⟨nv.lt a b,nv.r1 a b⟩
 have hge : 0 ≤ ino:=by
  rcases hin with e1 | ⟨a,b,e1⟩
  ·rw [e1]; decide
  ·rw [e1]; exact (dE_bd nv.iv.d a b).1
 have h0 : ino ≠ 0:=drFind_ne DgP s old (by rw [hf]) |> fun q => by rw [hf] at q; exact q
 obtain ⟨⟨k,m,l,z⟩,hi⟩ : ∃ i,(fdR s ino).1 = i:=⟨_,rfl⟩
 rw [hi] at hk1
 have hk1' : k = 1:=hk1
 subst hk1'
 have hfd : fdR s ino = (⟨1,m,l,z⟩,0):=Prod.ext hi k1
 have hbd:=nv.iv.ok ino k1
 rw [hi] at hbd
 obtain ⟨b1,b2⟩:=ino_iff.1 hbd
 have hl1 : 1 ≤ l:=by
  rcases b2 with ⟨_,q,_⟩ | ⟨q,_⟩
  ·exact q
  ·exact absurd q (show ¬ (1 : Int) = 2 by decide)
 have hg' : drFree DgP s1 p = (s2,x,0):=hg
 obtain ⟨g1,g2,g3⟩:=spot_free (s:=s1) (p:=p) (by rw [hg'])
 obtain ⟨_,_,_,_,g4,g5⟩:=spot_at g1
 have hx:=drFree_ok (s:=s1) (by rw [hv1.d]; exact nv.iv.d) (p:=p) (by rw [hg'])
 have hv2:=drFree_vs s1 p
 have K : Kept 4294967296 s1 s:=(Kept.refl rk.l rk.iv.d).vs hv1 (Vs.refl s)
 have hsp:=spot_kept K g1
 rw [hg'] at g3 hx hv2
 have ex : (drSpot DgP s1 p).2.1 = x:=by rw [← g3]
 rw [ex] at hsp g2 g4 g5
 dsimp only at hx hv2
 have hv:=hv1.trans hv2
 have rk2:=rk.vs hv
 have hfd2 : fdR s2 ino = (⟨1,m,l,z⟩,0):=by rw [hv.f]; exact hfd
 have hl' : lkR s2 ino 1 = (s3,y,0):=hl
 obtain ⟨hb,hp⟩:=lk_was hl1 hfd2 (by rw [hl'])
 obtain ⟨c1,c2,c3,c4⟩:=lk_can rk2.iv hge (by omega) hfd2 ⟨by omega,hb⟩ (by decide) hp
 rw [hl'] at c2 c3 c4
 dsimp only at c2 c3 c4
 change Sg at s3
 have L:=(Lk.refl ino s2).link (y:=1) rk2.j hge (by omega)
 have iv3:=rk2.iv.link ino hge (by omega) 1
 rw [hl'] at L iv3
 dsimp only at L iv3
 have hlc:=lC_ok (t:=ino) (L:=l + 1) hge (by omega) ⟨by omega,hb⟩
 have rk3 : Rk s3:=by
  refine ⟨c2.trans rk2.l,?_,iv3⟩
  exact (Jv_cl.put rk2.j hlc).back c2 c3
 have hc : CgOk (toC x.ino x.name ino):=toC_ok hx.i0 hx.i1 hx.n8 hge (by omega)
 have hs' : (drWrite DgP s3 x.ino x.name (toC x.ino x.name ino)).2 = 0:=hs
 obtain ⟨w1,w2,w3,w4⟩:=ent_set iv3 hc hs'
 obtain ⟨v1,v2,v3,v4⟩:=wr_eff rk3 hc rfl hs'
 have hpr : isX s3.d (recP ino) = true:=by rw [c3]; exact isX_self rk2.iv.d hlc hp
 have hz : (drSpot DgP s p).2.2 = 0:=by rw [hsp]
 have hio : (drSpot DgP s p).2.1.ino = x.ino:=by rw [hsp]
 rw [hio,← g4]
 refine ⟨ino,m,l,z,by rw [hf],by omega,hlt.1,hfd,hl1,hb,hz,?_,⟨v1,fun a b => ?_,fun u hu => ?_,v3,v2 _ hpr⟩,?_⟩
 ·have : x.to = dE s1 x.ino (parN p):=g5
  rw [hv1.e] at this
  rw [g4,← this]; exact g2
 ·show dE (drWrite DgP s3 x.ino x.name (toC x.ino x.name ino)).1 a b = _
  rw [w1,L.e,hv.e]
 ·show fdR (drWrite DgP s3 x.ino x.name (toC x.ino x.name ino)).1 u = _
  rw [w2,L.f u hu,hv.f]
 ·show fdR (drWrite DgP s3 x.ino x.name (toC x.ino x.name ino)).1 ino = _
  rw [w2]; exact c4
end Go.Proofs.YtgajjphjkbnaeaaGreat
