/- DrJ, DrK: in one text. -/
import Derived.Test.YtgajjphjkbnaeaaGreatQ51
namespace Go.Proofs.YtgajjphjkbnaeaaGreat
open Go.RowKit
set_option linter.unusedVariables false
set_option maxHeartbeats 32000000
set_option maxRecDepth 100000
set_option linter.unusedSimpArgs false
structure Nv (i : Nat) (s : Sg) : Prop where
 iv : Iv s
 n0 : 2 ≤ s.n
 n1 : s.n ≤ 2 + i
 lt : ∀ k x,dE s k x < s.n
 r1 : ∀ k x,dE s k x ≠ 1
 rt : dD s 1
 un : ∀ k x k' x',dE s k x ≠ 0 → dE s k x = dE s k' x' → dD s (dE s k x) → k = k' ∧ x = x'
 fr : ∀ k x,s.n ≤ k → dE s k x = 0
theorem Nv.step {i : Nat} {s s' : Sg} (h : Nv i s) (iv : Iv s') (n0 : s.n ≤ s'.n) (n1 : s'.n ≤ 3 + i) (yk : Int) (yx : ByteArray) (t : Int)
  (HE : ∀ k x,dE s' k x = 0 ∨ dE s' k x = dE s k x ∨ (k = yk ∧ x = yx ∧ dE s' k x = t)) (ht : t < s'.n) (hyk : yk < s.n) (ht1 : t ≠ 1) (hrt : dD s' 1) (HD : ∀ u,u < s.n → dD s' u → dD s u)
  (HT : ∀ k x,t ≠ 0 → dE s k x = t → dE s' k x = t → dD s' t → k = yk ∧ x = yx) : Nv (i + 1) s':=by
 have m0:=h.n0
 refine ⟨iv,by omega,by omega,fun k x => ?_,fun k x => ?_,hrt,fun k x k' x' hne heq hd => ?_,fun k x hk => ?_⟩
 ·have:=h.lt k x
  rcases HE k x with e | e | ⟨_,_,e⟩ <;> omega
 ·have:=h.r1 k x
  rcases HE k x with e | e | ⟨_,_,e⟩ <;> omega
 ·rcases HE k x with e | e | ⟨e1,e2,e⟩
  ·exact absurd e hne
  ·have hlt:=h.lt k x
   have hd' : dD s (dE s k x):=HD _ hlt (by rw [← e]; exact hd)
   rcases HE k' x' with f | f | ⟨f1,f2,f⟩
   ·exact absurd (heq.trans f) hne
   ·exact h.un k x k' x' (by rw [← e]; exact hne) (by rw [← e,heq,f]) hd'
   ·have et : dE s' k x = t:=heq.trans f
    obtain ⟨g1,g2⟩:=HT k x (by rw [← et]; exact hne) (by rw [← e,et]) et (by rw [← et]; exact hd)
    exact ⟨g1.trans f1.symm,g2.trans f2.symm⟩
  ·rcases HE k' x' with f | f | ⟨f1,f2,f⟩
   ·exact absurd (heq.trans f) hne
   ·have et : dE s' k' x' = t:=heq.symm.trans e
    obtain ⟨g1,g2⟩:=HT k' x' (by rw [← e]; exact hne) (by rw [← f,et]) et (by rw [← e]; exact hd)
    exact ⟨e1.trans g1.symm,e2.trans g2.symm⟩
   ·exact ⟨e1.trans f1.symm,e2.trans f2.symm⟩
 ·rcases HE k x with e | e | ⟨e1,_,_⟩
  ·exact e
  ·rw [e]; exact h.fr k x (by omega)
  ·omega
theorem Nv.vs {i j : Nat} {s t : Sg} (h : Nv i s) (hl : t.l = s.l) (hd : t.d = s.d) (n0 : s.n ≤ t.n) (n1 : t.n ≤ 2 + j) : Nv j t:=by
 have hE : ∀ k x,dE t k x = dE s k x:=fun k x => by unfold dE; rw [hl,hd]
 have hF : ∀ u,fdR t u = fdR s u:=fun u => fd_same hl hd u
 have hD : ∀ u,dD t u ↔ dD s u:=fun u => by unfold dD; rw [hF u]
 have m0:=h.n0
 refine ⟨h.iv.same hl hd,by omega,n1,fun k x => ?_,fun k x => by rw [hE]; exact h.r1 k x,(hD 1).2 h.rt,fun k x k' x' a b c => ?_,fun k x hk => by rw [hE]; exact h.fr k x (by omega)⟩
 ·rw [hE]; have:=h.lt k x; omega
 ·rw [hE] at a b c; rw [hE] at b; exact h.un k x k' x' a b ((hD _).1 c)
theorem Nv.jv {i : Nat} {s : Sg} (h : Nv i s) : DlOk s.d:=h.iv.d
theorem Nv.kd {i : Nat} {s : Sg} (h : Nv i s) {t : Int} (he : (fdR s t).2 = 0) : (fdR s t).1.k = 1 ∨ (fdR s t).1.k = 2:=by
 obtain ⟨_,h3⟩:=ino_iff.1 (h.iv.ok t he)
 rcases h3 with ⟨e,_⟩ | ⟨e,_⟩
 ·exact .inl e
 ·exact .inr e
theorem drSpot_in {s : Sg} {p : ByteArray} (h : (drSpot DgP s p).2.2 = 0) : (drSpot DgP s p).2.1.ino = 1 ∨ ∃ k x,(drSpot DgP s p).2.1.ino = dE s k x:=by
 obtain ⟨_,h1,_,e⟩:=drSpot_cases (D:=DgP) h
 rw [e]
 exact drDown_E (parL p) s 1 h1
theorem Nv.spot {i : Nat} {s : Sg} (h : Nv i s) {p : ByteArray} (he : (drSpot DgP s p).2.2 = 0) : (drSpot DgP s p).2.1.ino < s.n:=by
 have m0:=h.n0
 rcases drSpot_in he with e | ⟨k,x,e⟩
 ·omega
 ·rw [e]; exact h.lt k x
theorem Nv.free {i : Nat} {s : Sg} (h : Nv i s) {p : ByteArray} (he : (drFree DgP s p).2.2 = 0) : (drFree DgP s p).2.1.ino < s.n:=by
 obtain ⟨h1,e⟩:=drFree_cases (D:=DgP) he
 rw [e]; exact h.spot h1
theorem mk_cases {D : Sgd} {s : D.G.S} {p : ByteArray} {k m : Int} (h : (drMake D s p k m).2.2 = 0) : (drFree D s p).2.2 = 0 ∧ (D.mak (drFree D s p).1 k m).2.2 = 0 ∧ (drSet D (D.mak (drFree D s p).1 k m).1 (drFree D s p).2.1 (D.mak (drFree D s p).1 k m).2.1).2 = 0 ∧
  (drMake D s p k m).1 = (drSet D (D.mak (drFree D s p).1 k m).1 (drFree D s p).2.1 (D.mak (drFree D s p).1 k m).2.1).1:=by
 unfold drMake drMake0 at h ⊢
 by_cases h1 : (drFree D s p).2.2 ≠ 0
 ·rw [if_pos h1] at h; exact absurd h h1
 rw [if_neg h1] at h ⊢
 unfold drMake1 at h ⊢
 by_cases h2 : (D.mak (drFree D s p).1 k m).2.2 ≠ 0
 ·rw [if_pos h2] at h; exact absurd h h2
 rw [if_neg h2] at h ⊢
 unfold drMake2 at h ⊢
 by_cases h3 : (drSet D (D.mak (drFree D s p).1 k m).1 (drFree D s p).2.1 (D.mak (drFree D s p).1 k m).2.1).2 ≠ 0
 ·rw [if_pos h3] at h; exact absurd h h3
 rw [if_neg h3]
 exact ⟨Decidable.not_not.1 h1,Decidable.not_not.1 h2,Decidable.not_not.1 h3,rfl⟩
theorem lk_cases {D : Sgd} {s : D.G.S} {old p : ByteArray} (h : (drLink D s old p).2 = 0) : ∃ s1 ino s2 x s3 y,drFind D s old = (s1,ino,0) ∧ (drKind D s1 ino 2 193).2 = 0 ∧ drFree D (drKind D s1 ino 2 193).1 p = (s2,x,0) ∧ D.lk s2 ino 1 = (s3,y,0) ∧ (drSet D s3 x ino).2 = 0 ∧ (drLink D s old p).1 = (drSet D s3 x ino).1:=by
 unfold drLink at h ⊢
 by_cases h0 : parE p ≠ 0
 ·rw [if_pos h0] at h; exact absurd h h0
 rw [if_neg h0] at h ⊢
 obtain ⟨⟨s1,ino,e1⟩,hf⟩ : ∃ r,drFind D s old = r:=⟨_,rfl⟩
 rw [hf] at h ⊢
 unfold drLink0 at h ⊢
 dsimp only at h ⊢
 by_cases h1 : e1 ≠ 0
 ·rw [if_pos h1] at h; exact absurd h h1
 rw [if_neg h1] at h ⊢
 unfold drLink1 at h ⊢
 by_cases h2 : (drKind D s1 ino 2 193).2 ≠ 0
 ·rw [if_pos h2] at h; exact absurd h h2
 rw [if_neg h2] at h ⊢
 obtain ⟨⟨s2,x,e2⟩,hg⟩ : ∃ r,drFree D (drKind D s1 ino 2 193).1 p = r:=⟨_,rfl⟩
 rw [hg] at h ⊢
 unfold drLink2 at h ⊢
 dsimp only at h ⊢
 by_cases h3 : e2 ≠ 0
 ·rw [if_pos h3] at h; exact absurd h h3
 rw [if_neg h3] at h ⊢
 obtain ⟨⟨s3,y,e3⟩,hl⟩ : ∃ r,D.lk s2 ino 1 = r:=⟨_,rfl⟩
 rw [hl] at h ⊢
 unfold drLink3 at h ⊢
 dsimp only at h ⊢
 by_cases h4 : e3 ≠ 0
 ·rw [if_pos h4] at h; exact absurd h h4
 rw [if_neg h4] at h ⊢
 obtain rfl:=Decidable.not_not.1 h1
 obtain rfl:=Decidable.not_not.1 h3
 obtain rfl:=Decidable.not_not.1 h4
 exact ⟨s1,ino,s2,x,s3,y,rfl,Decidable.not_not.1 h2,hg,hl,h,rfl⟩
theorem un_cases {D : Sgd} {s : D.G.S} {p : ByteArray} (h : (drUnlink D s p).2 = 0) : ∃ s1 x s2,drTaken D s p = (s1,x,0) ∧ (drKind D s1 x.to 2 193).2 = 0 ∧ drAway D (drKind D s1 x.to 2 193).1 x = (s2,0) ∧ (drUnlink D s p).1 = (D.lk s2 x.to (-1)).1:=by
 unfold drUnlink at h ⊢
 obtain ⟨⟨s1,x,e1⟩,hf⟩ : ∃ r,drTaken D s p = r:=⟨_,rfl⟩
 rw [hf] at h ⊢
 unfold drUnlink0 at h ⊢
 dsimp only at h ⊢
 by_cases h1 : e1 ≠ 0
 ·rw [if_pos h1] at h; exact absurd h h1
 rw [if_neg h1] at h ⊢
 unfold drUnlink1 at h ⊢
 by_cases h2 : (drKind D s1 x.to 2 193).2 ≠ 0
 ·rw [if_pos h2] at h; exact absurd h h2
 rw [if_neg h2] at h ⊢
 obtain ⟨⟨s2,e2⟩,hg⟩ : ∃ r,drAway D (drKind D s1 x.to 2 193).1 x = r:=⟨_,rfl⟩
 rw [hg] at h ⊢
 unfold drUnlink2 at h ⊢
 dsimp only at h ⊢
 by_cases h3 : e2 ≠ 0
 ·rw [if_pos h3] at h; exact absurd h h3
 rw [if_neg h3]
 obtain rfl:=Decidable.not_not.1 h1
 obtain rfl:=Decidable.not_not.1 h3
 exact ⟨s1,x,s2,rfl,Decidable.not_not.1 h2,hg,rfl⟩
theorem rd_cases {D : Sgd} {s : D.G.S} {p : ByteArray} (h : (drRmdir D s p).2 = 0) : ∃ s1 x s2 nl s3,drTaken D s p = (s1,x,0) ∧ (drKind D s1 x.to 1 192).2 = 0 ∧ D.nms (drKind D s1 x.to 1 192).1 x.to = (s2,nl,0) ∧ drAway D s2 x = (s3,0) ∧ (drRmdir D s p).1 = (D.rm s3 x.to).1:=by
 unfold drRmdir at h ⊢
 obtain ⟨⟨s1,x,e1⟩,hf⟩ : ∃ r,drTaken D s p = r:=⟨_,rfl⟩
 rw [hf] at h ⊢
 unfold drRmdir0 at h ⊢
 dsimp only at h ⊢
 by_cases h1 : e1 ≠ 0
 ·rw [if_pos h1] at h; exact absurd h h1
 rw [if_neg h1] at h ⊢
 unfold drRmdir1 at h ⊢
 by_cases h2 : (drKind D s1 x.to 1 192).2 ≠ 0
 ·rw [if_pos h2] at h; exact absurd h h2
 rw [if_neg h2] at h ⊢
 obtain ⟨⟨s2,nl,e2⟩,hn⟩ : ∃ r,D.nms (drKind D s1 x.to 1 192).1 x.to = r:=⟨_,rfl⟩
 rw [hn] at h ⊢
 unfold drRmdir2 at h ⊢
 dsimp only at h ⊢
 by_cases h3 : e2 ≠ 0
 ·rw [if_pos h3] at h; exact absurd h h3
 rw [if_neg h3] at h ⊢
 by_cases h5 : 0 < nl.length
 ·rw [if_pos h5] at h; exact absurd h (show ¬ (194 : Int) = 0 by decide)
 rw [if_neg h5] at h ⊢
 obtain ⟨⟨s3,e3⟩,hg⟩ : ∃ r,drAway D s2 x = r:=⟨_,rfl⟩
 rw [hg] at h ⊢
 unfold drRmdir3 at h ⊢
 dsimp only at h ⊢
 by_cases h4 : e3 ≠ 0
 ·rw [if_pos h4] at h; exact absurd h h4
 rw [if_neg h4]
 obtain rfl:=Decidable.not_not.1 h1
 obtain rfl:=Decidable.not_not.1 h3
 obtain rfl:=Decidable.not_not.1 h4
 exact ⟨s1,x,s2,nl,s3,rfl,Decidable.not_not.1 h2,hn,hg,rfl⟩
theorem rn_cases {D : Sgd} {s : D.G.S} {old p : ByteArray} (h : (drRename D s old p).2 = 0) : ∃ s1 x b s2 y s3,drTaken D s old = (s1,x,0) ∧ (b = s1 ∨ b = (drKind D s1 x.to 2 195).1) ∧ drFree D b p = (s2,y,0) ∧ drAway D s2 x = (s3,0) ∧ (drSet D s3 y x.to).2 = 0 ∧ (drRename D s old p).1 = (drSet D s3 y x.to).1:=by
 unfold drRename at h ⊢
 by_cases h0 : parE old ≠ 0
 ·rw [if_pos h0] at h; exact absurd h h0
 rw [if_neg h0] at h ⊢
 by_cases h0' : parE p ≠ 0
 ·rw [if_pos h0'] at h; exact absurd h h0'
 rw [if_neg h0'] at h ⊢
 obtain ⟨⟨s1,x,e1⟩,hf⟩ : ∃ r,drTaken D s old = r:=⟨_,rfl⟩
 rw [hf] at h ⊢
 unfold drRen1 at h ⊢
 dsimp only at h ⊢
 by_cases h1 : e1 ≠ 0
 ·rw [if_pos h1] at h; exact absurd h h1
 rw [if_neg h1] at h ⊢
 obtain ⟨⟨b,e2⟩,hb⟩ : ∃ r,(if drBel old p = true then drKind D s1 x.to 2 195 else (s1,0)) = r:=⟨_,rfl⟩
 have hbb : b = s1 ∨ b = (drKind D s1 x.to 2 195).1:=by
  by_cases hq : drBel old p = true
  ·rw [if_pos hq] at hb; exact .inr (by rw [hb])
  ·rw [if_neg hq] at hb; simp only [Prod.mk.injEq] at hb; exact .inl hb.1.symm
 rw [hb] at h ⊢
 unfold drRen2 at h ⊢
 dsimp only at h ⊢
 by_cases h2 : e2 ≠ 0
 ·rw [if_pos h2] at h; exact absurd h h2
 rw [if_neg h2] at h ⊢
 obtain ⟨⟨s2,y,e3⟩,hg⟩ : ∃ r,drFree D b p = r:=⟨_,rfl⟩
 rw [hg] at h ⊢
 unfold drRen3 at h ⊢
 dsimp only at h ⊢
 by_cases h3 : e3 ≠ 0
 ·rw [if_pos h3] at h; exact absurd h h3
 rw [if_neg h3] at h ⊢
 obtain ⟨⟨s3,e4⟩,hl⟩ : ∃ r,drAway D s2 x = r:=⟨_,rfl⟩
 rw [hl] at h ⊢
 unfold drRen4 at h ⊢
 dsimp only at h ⊢
 by_cases h4 : e4 ≠ 0
 ·rw [if_pos h4] at h; exact absurd h h4
 rw [if_neg h4] at h ⊢
 obtain rfl:=Decidable.not_not.1 h1
 obtain rfl:=Decidable.not_not.1 h3
 obtain rfl:=Decidable.not_not.1 h4
 exact ⟨s1,x,b,s2,y,s3,rfl,hbb,hg,hl,h,rfl⟩
theorem mak_0 {s : Sg} {k m : Int} (h : (makR s k m).2.2 = 0) : inoOk k m 1 0 = true ∧ (putX s.d (makC s k m)).2 = 0 ∧ makR s k m = (makS s k m,s.n,0):=by
 unfold makR at h ⊢
 by_cases h1 : inoOk k m 1 0 = false
 ·rw [if_pos h1] at h; exact absurd h (show ¬ (1 : Int) = 0 by decide)
 rw [if_neg h1] at h ⊢
 by_cases h2 : (putX s.d (makC s k m)).2 ≠ 0
 ·rw [if_pos h2] at h; exact absurd h h2
 rw [if_neg h2]
 exact ⟨by simpa using h1,Decidable.not_not.1 h2,rfl⟩
theorem mak_E {s : Sg} (iv : Iv s) (hn0 : 2 ≤ s.n) (hn1 : s.n ≤ 1000) {k m : Int} (h : (makR s k m).2.2 = 0) : (∀ a x,dE (makS s k m) a x = dE s a x) ∧ (∀ u,u ≠ s.n → fdR (makS s k m) u = fdR s u) ∧ (makS s k m).n = s.n + 1 ∧ Iv (makS s k m):=by
 obtain ⟨h1,h2,h3⟩:=mak_0 h
 have hc : CgOk (makC s k m):=makC_ok (by omega) (by omega) h1
 have hv:=iv.make (by omega) (by omega) k m
 rw [h3] at hv
 refine ⟨fun a x => ?_,fun u hu => ?_,?_,hv⟩
 ·unfold dE
  show (vgR s.l (putS s.d (makC s k m)) (entP a x)).1.lead = _
  rw [vg_p iv.d iv.c hc,if_neg (fun q => rec_ent (show recP s.n = entP a x from plEq_iff.1 q.2))]
 ·unfold fdR
  show fdF u (vgR s.l (putS s.d (makC s k m)) (recP u)) = _
  rw [vg_p iv.d iv.c hc,if_neg (fun q => hu (by
   have e : recP s.n = recP u:=plEq_iff.1 q.2
   exact (congrArg Pl.ino e).symm))]
 ·show nextN s.n = _
  unfold nextN
  rw [if_neg (by omega)]
theorem dD_of {s s' : Sg} {u : Int} (e : fdR s' u = fdR s u) (h : dD s' u) : dD s u:=by unfold dD at *; rw [e] at h; exact h
theorem dD_to {s s' : Sg} {u : Int} (e : fdR s' u = fdR s u) (h : dD s u) : dD s' u:=by unfold dD at *; rw [e]; exact h
theorem Lk.dd {t0 : Int} {s s' : Sg} (h : Lk t0 s s') {u : Int} (hd : dD s' u) : dD s u:=by
 by_cases hu : u = t0
 ·subst hu
  obtain ⟨q1,q2⟩:=h.g hd.1
  exact ⟨q1,by rw [← q2]; exact hd.2⟩
 ·exact dD_of (h.f u hu) hd
theorem dw_jv {s : Sg} (j : Jv s) {ino : Int} {name : ByteArray} {c : Cg} (hc : CgOk c) (h : (drWrite DgP s ino name c).2 = 0) : Jv (drWrite DgP s ino name c).1:=by
 rw [(dw_ok h).2]
 exact Jv_cl.wr (Jv_cl.put j hc) _
theorem nv_make {i : Nat} {s : Sg} (h : Nv i s) (hi : i < 40) {p : ByteArray} {k m : Int} (he : (drMake DgP s p k m).2.2 = 0) : Nv (i + 1) (drMake DgP s p k m).1:=by
 obtain ⟨h1,h2,h3,e⟩:=mk_cases (D:=DgP) he
 have hv:=drFree_vs s p
 have hx:=drFree_ok h.jv h1
 have hlt:=h.free h1
 rw [e]
 generalize drFree DgP s p = FR at *
 obtain ⟨s1,x,e1⟩:=FR
 change Sg at s1
 dsimp only at *
 have iv1:=h.iv.same hv.l hv.d
 have m0:=h.n0
 have m1:=h.n1
 have hn : s1.n = s.n:=hv.n
 obtain ⟨_,_,a3⟩:=mak_0 h2
 obtain ⟨q1,q2,q3,q4⟩:=mak_E iv1 (by omega) (by omega) h2
 have a4 : DgP.mak s1 k m = (makS s1 k m,s1.n,0):=a3
 rw [a4] at h3 ⊢
 have hc : CgOk (toC x.ino x.name s1.n):=toC_ok hx.i0 hx.i1 hx.n8 (by omega) (by omega)
 obtain ⟨w1,w2,w3,w4⟩:=ent_set q4 hc h3
 have hN : (drWrite DgP (makS s1 k m) x.ino x.name (toC x.ino x.name s1.n)).1.n = s.n + 1:=by rw [w4,q3,hn]
 have hE : ∀ a b,dE (drWrite DgP (makS s1 k m) x.ino x.name (toC x.ino x.name s1.n)).1 a b = if a = x.ino ∧ b = x.name then s1.n else dE s a b:=fun a b => by rw [w1,q1,hv.e]
 have hF : ∀ u,u ≠ s1.n → fdR (drWrite DgP (makS s1 k m) x.ino x.name (toC x.ino x.name s1.n)).1 u = fdR s u:=fun u hu => by rw [w2,q2 u hu,hv.f]
 refine h.step w3 (by show s.n ≤ (drWrite DgP (makS s1 k m) x.ino x.name (toC x.ino x.name s1.n)).1.n; omega) (by show (drWrite DgP (makS s1 k m) x.ino x.name (toC x.ino x.name s1.n)).1.n ≤ _; omega) x.ino x.name s1.n (fun a b => ?_) (by show _ < (drWrite DgP (makS s1 k m) x.ino x.name (toC x.ino x.name s1.n)).1.n; omega) hlt (by omega) (dD_to (hF 1 (by omega)) h.rt) (fun u hu hd => dD_of (hF u (by omega)) hd) (fun a b _ hh _ _ => ?_)
 ·by_cases hc : a = x.ino ∧ b = x.name
  ·exact .inr (.inr ⟨hc.1,hc.2,(hE a b).trans (if_pos hc)⟩)
  ·exact .inr (.inl ((hE a b).trans (if_neg hc)))
 ·have:=h.lt a b
  omega
theorem nv_link {i : Nat} {s : Sg} (h : Nv i s) (hi : i < 40) (j : Jv s) {old p : ByteArray} (he : (drLink DgP s old p).2 = 0) : Nv (i + 1) (drLink DgP s old p).1:=by
 obtain ⟨s1,ino,s2,x,s3,y,hf,hk,hg,hl,hs,e⟩:=lk_cases (D:=DgP) he
 rw [e]
 have hv1:=drFind_vs s old
 rw [hf] at hv1
 have hfe : (drFind DgP s old).2.2 = 0:=by rw [hf]
 have hin:=drFind_E hfe
 rw [hf] at hin
 obtain ⟨k1,k2⟩:=drKind_0 (by decide) hk
 dsimp only at hv1 hin
 rw [hv1.f] at k1 k2
 have hv2:=drFree_vs s1 p
 have hg' : drFree DgP s1 p = (s2,x,0):=hg
 have hx:=drFree_ok (s:=s1) (by rw [hv1.d]; exact h.jv) (p:=p) (by rw [hg'])
 have hnv1 : Nv i s1:=h.vs hv1.l hv1.d (Int.le_of_eq hv1.n.symm) (by rw [hv1.n]; exact h.n1)
 have hly:=hnv1.free (p:=p) (by rw [hg'])
 rw [hv1.n] at hly
 rw [hg'] at hv2 hx hly
 dsimp only at hv2 hx
 have hv:=hv1.trans hv2
 have hk1 : (fdR s ino).1.k = 1:=by rcases h.kd k1 with e | e; exact e; exact absurd e k2
 have hnd : ¬ dD s ino:=fun q => q.2 hk1
 obtain ⟨ak,ax,ea⟩ : ∃ k x,ino = dE s k x:=by
  rcases hin with e1 | e1
  ·exfalso; rw [e1] at hk1; exact h.rt.2 hk1
  ·exact e1
 have hb:=dE_bd h.jv ak ax
 have hlt:=h.lt ak ax
 have hr1:=h.r1 ak ax
 rw [← ea] at hb hlt hr1
 have jv2 : Jv s2:=j.back hv.l hv.d
 have hl' : lkR s2 ino 1 = (s3,y,0):=hl
 have L:=(Lk.refl ino s2).link jv2 hb.1 hb.2 1
 have iv3:=(h.iv.same hv.l hv.d).link ino hb.1 hb.2 1
 rw [hl'] at L iv3
 dsimp only at L iv3
 have hc : CgOk (toC x.ino x.name ino):=toC_ok hx.i0 hx.i1 hx.n8 hb.1 hb.2
 obtain ⟨w1,w2,w3,w4⟩:=ent_set iv3 hc hs
 have m1:=h.n1
 have hn : (drWrite DgP s3 x.ino x.name (toC x.ino x.name ino)).1.n = s.n:=by rw [w4,L.n,hv.n]
 have hE : ∀ a b,dE (drWrite DgP s3 x.ino x.name (toC x.ino x.name ino)).1 a b = if a = x.ino ∧ b = x.name then ino else dE s a b:=fun a b => by rw [w1,L.e,hv.e]
 have hD : ∀ u,dD (drWrite DgP s3 x.ino x.name (toC x.ino x.name ino)).1 u → dD s u:=fun u q => dD_of (hv.f u) (L.dd (dD_of (w2 u) q))
 have hrt : dD (drWrite DgP s3 x.ino x.name (toC x.ino x.name ino)).1 1:=dD_to (w2 1) (dD_to (L.f 1 (Ne.symm hr1)) (dD_to (hv.f 1) h.rt))
 refine h.step w3 (by show s.n ≤ (drWrite DgP s3 x.ino x.name (toC x.ino x.name ino)).1.n; omega) (by show (drWrite DgP s3 x.ino x.name (toC x.ino x.name ino)).1.n ≤ _; omega) x.ino x.name ino (fun a b => ?_) (by show _ < (drWrite DgP s3 x.ino x.name (toC x.ino x.name ino)).1.n; omega) hly hr1 hrt (fun u _ hd => hD u hd) (fun a b _ _ _ hd => absurd (hD ino hd) hnd)
 by_cases hc : a = x.ino ∧ b = x.name
 ·exact .inr (.inr ⟨hc.1,hc.2,(hE a b).trans (if_pos hc)⟩)
 ·exact .inr (.inl ((hE a b).trans (if_neg hc)))
theorem nv_un {i : Nat} {s s1 s2 s3 : Sg} {x : Spt} (h : Nv i s) (hv : Vs s s1) (hx : SptOk x) (hto : x.to = dE s x.ino x.name) (hg : drAway DgP s1 x = (s2,0)) (L : Lk x.to s2 s3) (iv3 : Iv s3) : Nv (i + 1) s3:=by
 have hg2 : (drWrite DgP s1 x.ino x.name (goneC (entP x.ino x.name))).2 = 0:=congrArg Prod.snd hg
 have hg1 : (drWrite DgP s1 x.ino x.name (goneC (entP x.ino x.name))).1 = s2:=congrArg Prod.fst hg
 obtain ⟨w1,w2,w3,w4⟩:=ent_gone (h.iv.same hv.l hv.d) (goneE_ok hx.i0 hx.i1 hx.n8) hg2
 rw [hg1] at w1 w2 w3 w4
 have hr1:=h.r1 x.ino x.name
 rw [← hto] at hr1
 have m0:=h.n0
 have m1:=h.n1
 have hn : s3.n = s.n:=by rw [L.n,w4,hv.n]
 have hE : ∀ a b,dE s3 a b = if a = x.ino ∧ b = x.name then 0 else dE s a b:=fun a b => by rw [L.e,w1,hv.e]
 refine h.step iv3 (by omega) (by omega) 0 ⟨#[]⟩ 0 (fun a b => ?_) (by omega) (by omega) (by decide) (dD_to (L.f 1 (Ne.symm hr1)) (dD_to (w2 1) (dD_to (hv.f 1) h.rt))) (fun u _ hd => dD_of (hv.f u) (dD_of (w2 u) (L.dd hd))) (fun _ _ q _ _ _ => absurd rfl q)
 by_cases hc : a = x.ino ∧ b = x.name
 ·exact .inl (by rw [hE,if_pos hc])
 ·exact .inr (.inl (by rw [hE,if_neg hc]))
theorem nv_unlink {i : Nat} {s : Sg} (h : Nv i s) (j : Jv s) {p : ByteArray} (he : (drUnlink DgP s p).2 = 0) : Nv (i + 1) (drUnlink DgP s p).1:=by
 obtain ⟨s1,x,s2,ht,hk,hg,e⟩:=un_cases (D:=DgP) he
 rw [e]
 have hv:=drTaken_vs s p
 have ho:=drTaken_ok (s:=s) h.jv (p:=p) (by rw [ht])
 rw [ht] at hv ho
 dsimp only at hv ho
 obtain ⟨hx,hto,hne⟩:=ho
 have hg' : drAway DgP s1 x = (s2,0):=hg
 have hg2 : (drWrite DgP s1 x.ino x.name (goneC (entP x.ino x.name))).2 = 0:=congrArg Prod.snd hg'
 have hg1 : (drWrite DgP s1 x.ino x.name (goneC (entP x.ino x.name))).1 = s2:=congrArg Prod.fst hg'
 have jv2:=dw_jv (j.back hv.l hv.d) (goneE_ok hx.i0 hx.i1 hx.n8) hg2
 have iv2:=(ent_gone (h.iv.same hv.l hv.d) (goneE_ok hx.i0 hx.i1 hx.n8) hg2).2.2.1
 rw [hg1] at jv2 iv2
 exact nv_un h hv hx hto hg' ((Lk.refl x.to s2).link jv2 hx.t0 hx.t1 (-1)) (iv2.link x.to hx.t0 hx.t1 (-1))
theorem nv_rmdir {i : Nat} {s : Sg} (h : Nv i s) (j : Jv s) {p : ByteArray} (he : (drRmdir DgP s p).2 = 0) : Nv (i + 1) (drRmdir DgP s p).1:=by
 obtain ⟨s1,x,s2,nl,s3,ht,hk,hm,hg,e⟩:=rd_cases (D:=DgP) he
 rw [e]
 have hv:=drTaken_vs s p
 have ho:=drTaken_ok (s:=s) h.jv (p:=p) (by rw [ht])
 rw [ht] at hv ho
 dsimp only at hv ho
 obtain ⟨hx,hto,hne⟩:=ho
 have hm' : nmsR s1 x.to = (s2,nl,0):=hm
 have hv2 : Vs s1 s2:=by
  have e2 : s2 = (nmsR s1 x.to).1:=by rw [hm']
  rw [e2]; exact ⟨rfl,rfl,rfl⟩
 have hv:=hv.trans hv2
 have hg2 : (drWrite DgP s2 x.ino x.name (goneC (entP x.ino x.name))).2 = 0:=congrArg Prod.snd hg
 have hg1 : (drWrite DgP s2 x.ino x.name (goneC (entP x.ino x.name))).1 = s3:=congrArg Prod.fst hg
 have jv3:=dw_jv (j.back hv.l hv.d) (goneE_ok hx.i0 hx.i1 hx.n8) hg2
 have iv3:=(ent_gone (h.iv.same hv.l hv.d) (goneE_ok hx.i0 hx.i1 hx.n8) hg2).2.2.1
 rw [hg1] at jv3 iv3
 exact nv_un h hv hx hto hg ((Lk.refl x.to s3).rm jv3 hx.t0 hx.t1) (iv3.rm x.to hx.t0 hx.t1)
theorem nv_rename {i : Nat} {s : Sg} (h : Nv i s) {old p : ByteArray} (he : (drRename DgP s old p).2 = 0) : Nv (i + 1) (drRename DgP s old p).1:=by
 obtain ⟨s1,x,b,s2,y,s3,ht,hb,hf,hg,hs,e⟩:=rn_cases (D:=DgP) he
 rw [e]
 have hv:=drTaken_vs s old
 have ho:=drTaken_ok (s:=s) h.jv (p:=old) (by rw [ht])
 rw [ht] at hv ho
 dsimp only at hv ho
 obtain ⟨hx,hto,hne⟩:=ho
 have hvb : Vs s b:=by
  rcases hb with rfl | rfl
  ·exact hv
  ·exact ⟨hv.l,hv.d,hv.n⟩
 have hv2:=drFree_vs b p
 have hy:=drFree_ok (s:=b) (by rw [hvb.d]; exact h.jv) (p:=p) (by rw [hf])
 have hnb : Nv i b:=h.vs hvb.l hvb.d (Int.le_of_eq hvb.n.symm) (by rw [hvb.n]; exact h.n1)
 have hly:=hnb.free (p:=p) (by rw [hf])
 rw [hvb.n] at hly
 rw [hf] at hv2 hy hly
 dsimp only at hv2 hy
 have hv:=hvb.trans hv2
 have hg2 : (drWrite DgP s2 x.ino x.name (goneC (entP x.ino x.name))).2 = 0:=congrArg Prod.snd hg
 have hg1 : (drWrite DgP s2 x.ino x.name (goneC (entP x.ino x.name))).1 = s3:=congrArg Prod.fst hg
 obtain ⟨a1,a2,a3,a4⟩:=ent_gone (h.iv.same hv.l hv.d) (goneE_ok hx.i0 hx.i1 hx.n8) hg2
 rw [hg1] at a1 a2 a3 a4
 have hc : CgOk (toC y.ino y.name x.to):=toC_ok hy.i0 hy.i1 hy.n8 hx.t0 hx.t1
 obtain ⟨w1,w2,w3,w4⟩:=ent_set a3 hc hs
 have hlt:=h.lt x.ino x.name
 have hr1:=h.r1 x.ino x.name
 rw [← hto] at hlt hr1
 have m1:=h.n1
 have hn : (drWrite DgP s3 y.ino y.name (toC y.ino y.name x.to)).1.n = s.n:=by rw [w4,a4,hv.n]
 have hE : ∀ a b,dE (drWrite DgP s3 y.ino y.name (toC y.ino y.name x.to)).1 a b = if a = y.ino ∧ b = y.name then x.to else if a = x.ino ∧ b = x.name then 0 else dE s a b:=fun a b => by rw [w1,a1,hv.e]
 have hF : ∀ u,fdR (drWrite DgP s3 y.ino y.name (toC y.ino y.name x.to)).1 u = fdR s u:=fun u => by rw [w2,a2,hv.f]
 refine h.step w3 (by show s.n ≤ (drWrite DgP s3 y.ino y.name (toC y.ino y.name x.to)).1.n; omega) (by show (drWrite DgP s3 y.ino y.name (toC y.ino y.name x.to)).1.n ≤ _; omega) y.ino y.name x.to (fun a b => ?_) (by show _ < (drWrite DgP s3 y.ino y.name (toC y.ino y.name x.to)).1.n; omega) hly hr1 (dD_to (hF 1) h.rt) (fun u _ hd => dD_of (hF u) hd) (fun a b _ q1 q2 q3 => ?_)
 ·by_cases hc : a = y.ino ∧ b = y.name
  ·exact .inr (.inr ⟨hc.1,hc.2,(hE a b).trans (if_pos hc)⟩)
  ·by_cases hc2 : a = x.ino ∧ b = x.name
   ·exact .inl ((hE a b).trans ((if_neg hc).trans (if_pos hc2)))
   ·exact .inr (.inl ((hE a b).trans ((if_neg hc).trans (if_neg hc2))))
 ·by_cases hc : a = y.ino ∧ b = y.name
  ·exact hc
  ·exfalso
   have hu:=h.un a b x.ino x.name (by rw [q1]; exact hne) (by rw [q1,hto]) (by rw [q1]; exact dD_of (hF x.to) q3)
   have e0:=(hE a b).trans ((if_neg hc).trans (if_pos hu))
   exact hne (q2.symm.trans e0)
theorem setR_n (s : Sg) (t : Int) (fs : List (Int × Int)) : (setR s t fs).1.n = s.n:=by
 unfold setR setF
 repeat' split
 all_goals rfl
theorem goneL_n : ∀ (ps : List Pl) (s : Sg),(goneL s ps).1.n = s.n
 | [],s => by unfold goneL; rfl
 | p :: ps,s => by
  unfold goneL
  split
  ·rfl
  ·exact (goneL_n ps (gone1 s p)).trans rfl
theorem rmR_n (s : Sg) (t : Int) : (rmR s t).1.n = s.n:=by
 have hB : (rmB s t (fdR s t).1).n = s.n:=by unfold rmB; split <;> rfl
 have hg:=goneL_n (placesL t (fdR s t).1) (rmB s t (fdR s t).1)
 unfold rmR rmF
 split
 ·rfl
 generalize goneL (rmB s t (fdR s t).1) (placesL t (fdR s t).1) = G at *
 unfold rmE
 split
 ·exact hg.trans hB
 ·exact hg.trans hB
theorem lkR_n (s : Sg) (t y : Int) : (lkR s t y).1.n = s.n:=by
 unfold lkR
 split
 ·rfl
 split
 ·rfl
 unfold lkB
 split
 ·rfl
 split
 ·rw [lkE_sj]; exact (rmR_n _ _).trans rfl
 split
 ·rfl
 ·rw [lkE_sj]; exact (setR_n _ _ _).trans rfl
theorem drWrite_rel {D : Sgd} (V : D.G.S → D.G.S → Prop) (ht : ∀ a b c,V a b → V b c → V a c) (hp : ∀ s c,V s (D.G.putS s c)) (hw : ∀ s t,V s (D.G.wr s t)) (s : D.G.S) (ino : Int) (name : ByteArray) (c : Cg) : V s (drWrite D s ino name c).1:=by
 unfold drWrite
 split
 ·exact hp s c
 ·exact ht _ _ _ (hp s c) (hw _ _)
structure Vc (D : Sgd) (V : D.G.S → D.G.S → Prop) : Prop where
 r : ∀ s,V s s
 t : ∀ a b c,V a b → V b c → V a c
 l : ∀ s k x,V s (drLook D s k x).1
 k : ∀ s ino k e,V s (drKind D s ino k e).1
 w : ∀ s ino name c,V s (drWrite D s ino name c).1
 lk : ∀ s t y,V s (D.lk s t y).1
 rm : ∀ s t,V s (D.rm s t).1
 nm : ∀ s t,V s (D.nms s t).1
theorem Vc.free {D : Sgd} {V : D.G.S → D.G.S → Prop} (q : Vc D V) (s : D.G.S) (p : ByteArray) : V s (drFree D s p).1:=by rw [drFree_st]; exact drSpot_rel V q.r q.t q.l s p
theorem Vc.taken {D : Sgd} {V : D.G.S → D.G.S → Prop} (q : Vc D V) (s : D.G.S) (p : ByteArray) : V s (drTaken D s p).1:=by rw [drTaken_st]; exact drSpot_rel V q.r q.t q.l s p
theorem Vc.link {D : Sgd} {V : D.G.S → D.G.S → Prop} (q : Vc D V) (s : D.G.S) (old p : ByteArray) : V s (drLink D s old p).1:=by
 unfold drLink
 split
 ·exact q.r s
 have h1:=drFind_rel V q.r q.t q.l s old
 unfold drLink0
 split
 ·exact h1
 have h2:=q.t _ _ _ h1 (q.k (drFind D s old).1 (drFind D s old).2.1 2 193)
 unfold drLink1
 split
 ·exact h2
 have h3:=q.t _ _ _ h2 (q.free (drKind D (drFind D s old).1 (drFind D s old).2.1 2 193).1 p)
 unfold drLink2
 split
 ·exact h3
 have h4:=q.t _ _ _ h3 (q.lk (drFree D (drKind D (drFind D s old).1 (drFind D s old).2.1 2 193).1 p).1 (drFind D s old).2.1 1)
 unfold drLink3
 split
 ·exact h4
 ·exact q.t _ _ _ h4 (q.w _ _ _ _)
theorem Vc.unlink {D : Sgd} {V : D.G.S → D.G.S → Prop} (q : Vc D V) (s : D.G.S) (p : ByteArray) : V s (drUnlink D s p).1:=by
 have h1:=q.taken s p
 unfold drUnlink drUnlink0
 split
 ·exact h1
 have h2:=q.t _ _ _ h1 (q.k (drTaken D s p).1 (drTaken D s p).2.1.to 2 193)
 unfold drUnlink1
 split
 ·exact h2
 have h3:=q.t _ _ _ h2 (q.w (drKind D (drTaken D s p).1 (drTaken D s p).2.1.to 2 193).1 (drTaken D s p).2.1.ino (drTaken D s p).2.1.name (goneC (entP (drTaken D s p).2.1.ino (drTaken D s p).2.1.name)))
 unfold drUnlink2
 split
 ·exact h3
 ·exact q.t _ _ _ h3 (q.lk _ _ _)
theorem Vc.rmdir {D : Sgd} {V : D.G.S → D.G.S → Prop} (q : Vc D V) (s : D.G.S) (p : ByteArray) : V s (drRmdir D s p).1:=by
 have h1:=q.taken s p
 unfold drRmdir drRmdir0
 split
 ·exact h1
 have h2:=q.t _ _ _ h1 (q.k (drTaken D s p).1 (drTaken D s p).2.1.to 1 192)
 unfold drRmdir1
 split
 ·exact h2
 have h3:=q.t _ _ _ h2 (q.nm (drKind D (drTaken D s p).1 (drTaken D s p).2.1.to 1 192).1 (drTaken D s p).2.1.to)
 unfold drRmdir2
 split
 ·exact h3
 split
 ·exact h3
 have h4:=q.t _ _ _ h3 (q.w (D.nms (drKind D (drTaken D s p).1 (drTaken D s p).2.1.to 1 192).1 (drTaken D s p).2.1.to).1 (drTaken D s p).2.1.ino (drTaken D s p).2.1.name (goneC (entP (drTaken D s p).2.1.ino (drTaken D s p).2.1.name)))
 unfold drRmdir3
 split
 ·exact h4
 ·exact q.t _ _ _ h4 (q.rm _ _)
theorem Vc.rename {D : Sgd} {V : D.G.S → D.G.S → Prop} (q : Vc D V) (s : D.G.S) (old p : ByteArray) : V s (drRename D s old p).1:=by
 unfold drRename
 split
 ·exact q.r s
 split
 ·exact q.r s
 have h1:=q.taken s old
 unfold drRen1
 split
 ·exact h1
 have h2 : V s (if drBel old p = true then drKind D (drTaken D s old).1 (drTaken D s old).2.1.to 2 195 else ((drTaken D s old).1,0)).1:=by
  split
  ·exact q.t _ _ _ h1 (q.k _ _ _ _)
  ·exact h1
 generalize (if drBel old p = true then drKind D (drTaken D s old).1 (drTaken D s old).2.1.to 2 195 else ((drTaken D s old).1,0)) = KK at *
 unfold drRen2
 split
 ·exact h2
 have h3:=q.t _ _ _ h2 (q.free KK.1 p)
 unfold drRen3
 split
 ·exact h3
 have h4:=q.t _ _ _ h3 (q.w (drFree D KK.1 p).1 (drTaken D s old).2.1.ino (drTaken D s old).2.1.name (goneC (entP (drTaken D s old).2.1.ino (drTaken D s old).2.1.name)))
 unfold drRen4
 split
 ·exact h4
 ·exact q.t _ _ _ h4 (q.w _ _ _ _)
theorem Vc.make {D : Sgd} {V : D.G.S → D.G.S → Prop} (q : Vc D V) (s : D.G.S) (p : ByteArray) (k m : Int) : V s (drMake D s p k m).1 ∨ ∃ s1,V s s1 ∧ V (D.mak s1 k m).1 (drMake D s p k m).1:=by
 have h1:=q.free s p
 unfold drMake drMake0
 split
 ·exact .inl h1
 refine .inr ⟨_,h1,?_⟩
 unfold drMake1
 split
 ·exact q.r _
 unfold drMake2
 split
 ·exact q.w _ _ _ _
 ·exact q.w _ _ _ _
def nV (s t : Sg) : Prop:=t.n = s.n
theorem nV_c : Vc DgP nV where
 r:=fun s => rfl
 t:=fun a b c h k => Eq.trans k h
 l:=fun s k x => (drLook_vs s k x).n
 k:=fun s ino k e => rfl
 w:=fun s ino name c => drWrite_rel (D:=DgP) nV (fun a b c h k => Eq.trans k h) (fun s c => rfl) (fun s t => rfl) s ino name c
 lk:=fun s t y => lkR_n s t y
 rm:=fun s t => rmR_n s t
 nm:=fun s t => rfl
theorem mak_n {s : Sg} (h0 : 0 ≤ s.n) (h1 : s.n ≤ 1000) (k m : Int) : s.n ≤ (makR s k m).1.n ∧ (makR s k m).1.n ≤ s.n + 1:=by
 have hm : (makS s k m).n = s.n + 1:=by show nextN s.n = _; unfold nextN; rw [if_neg (by omega)]
 unfold makR
 split
 ·exact ⟨Int.le_refl _,by show s.n ≤ s.n + 1; omega⟩
 split
 ·show s.n ≤ (makS s k m).n ∧ (makS s k m).n ≤ s.n + 1; omega
 ·show s.n ≤ (makS s k m).n ∧ (makS s k m).n ≤ s.n + 1; omega
theorem doneR_2 {s : Sg} {o : Rop} (h2 : o.d = 2) : doneR s o = ((drMake DgP s o.p o.k o.m).1,(drMake DgP s o.p o.k o.m).2.2):=if_pos h2
theorem doneR_3 {s : Sg} {o : Rop} (h2 : ¬ o.d = 2) (h3 : o.d = 3) : doneR s o = drLink DgP s o.old o.p:=(if_neg h2).trans (if_pos h3)
theorem doneR_4 {s : Sg} {o : Rop} (h2 : ¬ o.d = 2) (h3 : ¬ o.d = 3) (h4 : o.d = 4) : doneR s o = drUnlink DgP s o.p:=(if_neg h2).trans ((if_neg h3).trans (if_pos h4))
theorem doneR_5 {s : Sg} {o : Rop} (h2 : ¬ o.d = 2) (h3 : ¬ o.d = 3) (h4 : ¬ o.d = 4) (h5 : o.d = 5) : doneR s o = drRmdir DgP s o.p:=(if_neg h2).trans ((if_neg h3).trans ((if_neg h4).trans (if_pos h5)))
theorem doneR_6 {s : Sg} {o : Rop} (h2 : ¬ o.d = 2) (h3 : ¬ o.d = 3) (h4 : ¬ o.d = 4) (h5 : ¬ o.d = 5) (h6 : o.d = 6) : doneR s o = drRename DgP s o.old o.p:=(if_neg h2).trans ((if_neg h3).trans ((if_neg h4).trans ((if_neg h5).trans (if_pos h6))))
theorem doneR_7 {s : Sg} {o : Rop} (h2 : ¬ o.d = 2) (h3 : ¬ o.d = 3) (h4 : ¬ o.d = 4) (h5 : ¬ o.d = 5) (h6 : ¬ o.d = 6) : doneR s o = (s,0):=(if_neg h2).trans ((if_neg h3).trans ((if_neg h4).trans ((if_neg h5).trans (if_neg h6))))
theorem doneR_ind {s : Sg} {o : Rop} {M : Sg × Int → Prop} (a2 : M ((drMake DgP s o.p o.k o.m).1,(drMake DgP s o.p o.k o.m).2.2)) (a3 : M (drLink DgP s o.old o.p)) (a4 : M (drUnlink DgP s o.p)) (a5 : M (drRmdir DgP s o.p)) (a6 : M (drRename DgP s o.old o.p)) (a7 : M (s,0)) : M (doneR s o):=by
 by_cases h2 : o.d = 2
 ·rw [doneR_2 h2]; exact a2
 by_cases h3 : o.d = 3
 ·rw [doneR_3 h2 h3]; exact a3
 by_cases h4 : o.d = 4
 ·rw [doneR_4 h2 h3 h4]; exact a4
 by_cases h5 : o.d = 5
 ·rw [doneR_5 h2 h3 h4 h5]; exact a5
 by_cases h6 : o.d = 6
 ·rw [doneR_6 h2 h3 h4 h5 h6]; exact a6
 ·rw [doneR_7 h2 h3 h4 h5 h6]; exact a7
theorem doneR_n {s : Sg} (h0 : 0 ≤ s.n) (h1 : s.n ≤ 1000) (o : Rop) : s.n ≤ (doneR s o).1.n ∧ (doneR s o).1.n ≤ s.n + 1:=by
 have same : ∀ {t : Sg},nV s t → s.n ≤ t.n ∧ t.n ≤ s.n + 1:=fun {t} h => by have h' : t.n = s.n:=h; omega
 refine doneR_ind (M:=fun r => s.n ≤ r.1.n ∧ r.1.n ≤ s.n + 1) ?_ (same (nV_c.link s o.old o.p)) (same (nV_c.unlink s o.p)) (same (nV_c.rmdir s o.p)) (same (nV_c.rename s o.old o.p)) (same rfl)
 rcases nV_c.make s o.p o.k o.m with h | ⟨s1,ha,hb⟩
 ·exact same h
 ·have ha' : Sg.n s1 = s.n:=ha
  have hb' : (drMake DgP s o.p o.k o.m).1.n = (makR s1 o.k o.m).1.n:=hb
  have:=mak_n (s:=s1) (by omega) (by omega) o.k o.m
  show s.n ≤ (drMake DgP s o.p o.k o.m).1.n ∧ (drMake DgP s o.p o.k o.m).1.n ≤ s.n + 1
  omega
theorem base_fd {k : Int} {x : ByteArray} (h1 : plOk (entP k x) = true) : fdB rootL (keyS (entP k x)) = false:=by
 cases h2 : fdB rootL (keyS (entP k x)) with
 | false => rfl
 | true =>
  exfalso
  unfold fdB at h2
  cases hg : rootL[fdN rootL (keyS (entP k x))]? with
  | none => rw [hg] at h2; cases h2
  | some q =>
   rw [hg] at h2
   have hq : q.1 = rootK:=by
    obtain ⟨hl,e⟩:=List.getElem?_eq_some_iff.1 hg
    have h0 : fdN rootL (keyS (entP k x)) = 0:=by simp [rootL] at hl; exact hl
    simp only [h0] at e
    rw [← e]; rfl
   have h3 : rootK.toList = (keyS (entP k x)).toList:=by rw [← hq]; simpa using h2
   have h4 : rootK.toList[4]? = some 1:=by kernel_rfl
   have h5 : (keyS (entP k x)).toList[4]? = some 2:=by
    unfold keyS
    rw [if_pos h1,ByteArray.toList_eq,strOfNums_data]
    show (((fixB k.toNat 4 ++ 2 % 256 :: (restP (entP k x) ++ List.replicate (9 - (restP (entP k x)).length) 0)).map _).toArray).toList[4]? = _
    rw [List.getElem?_map,List.getElem?_append_right (by rw [fixB_length]; exact Nat.le_refl _),fixB_length]
    rfl
   rw [h3,h5] at h4
   cases h4
theorem base_ent (k : Int) (x : ByteArray) : (stI rootL (entP k x)).lead = 0:=by
 unfold stI
 cases h : stB rootL (entP k x) with
 | false => rfl
 | true =>
  exfalso
  unfold stB at h
  simp only [Bool.and_eq_true] at h
  obtain ⟨⟨h1,h2⟩,_⟩:=h
  rw [base_fd h1] at h2
  cases h2
theorem nv_0 : Nv 0 (sg0 rootL 64 2):=by
 have hE : ∀ k x,dE (sg0 rootL 64 2) k x = 0:=fun k x => by
  have e : vgR (sg0 rootL 64 2).l (sg0 rootL 64 2).d (entP k x) = (stI rootL (entP k x),stB rootL (entP k x),stE rootL (entP k x)):=vg_new rootL 64 (entP k x)
  unfold dE
  rw [e]
  exact base_ent k x
 refine ⟨Iv.start _ _ _ (by decide),Int.le_refl _,Int.le_refl _,fun k x => by rw [hE]; exact (by decide : (0 : Int) < 2),fun k x => by rw [hE]; decide,?_,fun k x k' x' h => absurd (hE k x) h,fun k x _ => hE k x⟩
 have e : fdR (sg0 rootL 64 2) 1 = (⟨2,0,1,0⟩,0):=by kernel_rfl
 unfold dD
 rw [e]
 decide
theorem nv_sc : Sc Nv where
 z:=nv_0
 s:=fun {i s} o hi j h _ he _ => doneR_ind (M:=fun r => r.2 = 0 → Nv (i + 1) r.1) (fun he => nv_make h hi he) (fun he => nv_link h hi j he) (fun he => nv_unlink h j he) (fun he => nv_rmdir h j he) (fun he => nv_rename h he) (fun _ => h.vs rfl rfl (Int.le_refl _) (by have:=h.n1; show s.n ≤ _; omega)) he
 b:=fun {i s t} o hi j h hl hd hn => by
  have m0:=h.n0
  have m1:=h.n1
  have:=doneR_n (s:=s) (by omega) (by omega) o
  exact h.vs hl hd (by omega) (by omega)
end Go.Proofs.YtgajjphjkbnaeaaGreat
