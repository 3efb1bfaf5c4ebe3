/- DrE, DrEa, DrEb, DrEc, DrEd: in one text. -/
import Derived.Test.YtgajjphjkbnaeaaGreatQ54
import Derived.Test.YtgajjphjkbnaeaaGreatQ16
namespace Go.Proofs.YtgajjphjkbnaeaaGreat
open Go.RowKit
set_option linter.unusedVariables false
set_option maxHeartbeats 32000000
set_option maxRecDepth 100000
set_option linter.unusedSimpArgs false
structure En where
 k : Int
 x : ByteArray
 t : Int
 deriving DecidableEq
def cnt (es : List En) (u : Int) : Nat:=es.countP fun e => decide (e.t = u)
structure Es (s : Sg) (es : List En) : Prop where
 nd : es.Nodup
 mem : ∀ e : En,e ∈ es ↔ e.t ≠ 0 ∧ dE s e.k e.x = e.t
theorem Es.same {s s' : Sg} {es : List En} (h : Es s es) (he : ∀ k x,dE s' k x = dE s k x) : Es s' es:=⟨h.nd,fun e => by rw [he]; exact h.mem e⟩
theorem Es.add {s s' : Sg} {es : List En} (h : Es s es) {k : Int} {x : ByteArray} {t : Int} (h0 : dE s k x = 0) (ht : t ≠ 0) (he : ∀ a b,dE s' a b = if a = k ∧ b = x then t else dE s a b) : Es s' (⟨k,x,t⟩ :: es) ∧ ∀ u,cnt (⟨k,x,t⟩ :: es) u = cnt es u + if t = u then 1 else 0:=by
 refine ⟨⟨List.nodup_cons.2 ⟨fun hm => ?_,h.nd⟩,fun e => ?_⟩,fun u => ?_⟩
 ·have q:=((h.mem _).1 hm).2
  dsimp only at q
  rw [h0] at q
  exact ht q.symm
 ·rw [he,List.mem_cons,h.mem]
  by_cases hc : e.k = k ∧ e.x = x
  ·rw [if_pos hc]
   constructor
   ·rintro (rfl | ⟨q1,q2⟩)
    ·exact ⟨ht,rfl⟩
    ·rw [hc.1,hc.2,h0] at q2; exact absurd q2.symm q1
   ·rintro ⟨q1,q2⟩
    obtain ⟨ek,ex,et⟩:=e
    obtain ⟨rfl,rfl⟩:=hc
    dsimp only at q2
    subst q2
    exact .inl rfl
  ·rw [if_neg hc]
   constructor
   ·rintro (rfl | q)
    ·exact absurd ⟨rfl,rfl⟩ hc
    ·exact q
   ·exact .inr
 ·unfold cnt
  rw [List.countP_cons]
  by_cases hu : t = u
  ·rw [if_pos (by simpa using hu),if_pos hu]
  ·rw [if_neg (by simpa using hu),if_neg hu]
theorem Es.del {s s' : Sg} {es : List En} (h : Es s es) {k : Int} {x : ByteArray} {t : Int} (h0 : dE s k x = t) (ht : t ≠ 0) (he : ∀ a b,dE s' a b = if a = k ∧ b = x then 0 else dE s a b) : ∃ es',Es s' es' ∧ (∀ u,cnt es u = cnt es' u + if t = u then 1 else 0) ∧ es'.length ≤ es.length - 1:=by
 have hm : (⟨k,x,t⟩ : En) ∈ es:=(h.mem _).2 ⟨ht,h0⟩
 have hp:=List.perm_cons_erase hm
 refine ⟨es.erase ⟨k,x,t⟩,⟨h.nd.erase _,fun e => ?_⟩,fun u => ?_,Nat.le_of_eq (List.length_erase_of_mem hm)⟩
 ·rw [he,h.nd.mem_erase_iff,h.mem]
  by_cases hc : e.k = k ∧ e.x = x
  ·rw [if_pos hc]
   constructor
   ·rintro ⟨q1,q2,q3⟩
    exfalso
    apply q1
    obtain ⟨ek,ex,et⟩:=e
    obtain ⟨rfl,rfl⟩:=hc
    dsimp only at q3
    rw [h0] at q3
    rw [q3]
   ·rintro ⟨q1,q2⟩
    exact absurd q2.symm q1
  ·rw [if_neg hc]
   constructor
   ·exact fun q => q.2
   ·intro q
    refine ⟨fun e1 => hc ?_,q⟩
    rw [e1]
    exact ⟨rfl,rfl⟩
 ·unfold cnt
  rw [hp.countP_eq,List.countP_cons]
  by_cases hu : t = u
  ·rw [if_pos (by simpa using hu),if_pos hu]
  ·rw [if_neg (by simpa using hu),if_neg hu]
theorem cnt_pos {es : List En} {u : Int} : 0 < cnt es u ↔ ∃ e ∈ es,e.t = u:=by
 unfold cnt
 rw [List.countP_pos_iff]
 simp
theorem Es.cnt_of {s : Sg} {es : List En} (h : Es s es) {k : Int} {x : ByteArray} (hn : dE s k x ≠ 0) : 0 < cnt es (dE s k x):=cnt_pos.2 ⟨⟨k,x,dE s k x⟩,(h.mem _).2 ⟨hn,rfl⟩,rfl⟩
theorem Es.cnt_no {s : Sg} {es : List En} (h : Es s es) {u : Int} (hu : ∀ k x,dE s k x ≠ u) : cnt es u = 0:=by
 cases hc : cnt es u with
 | zero => rfl
 | succ n =>
  obtain ⟨e,h1,h2⟩:=cnt_pos.1 (by omega : 0 < cnt es u)
  exact absurd (((h.mem e).1 h1).2.trans h2) (hu e.k e.x)
structure Tv (s : Sg) (es : List En) : Prop where
 e : Es s es
 ex : ∀ k x,dE s k x ≠ 0 → dD s k
 fd : ∀ k x,dE s k x ≠ 0 → (fdR s (dE s k x)).2 = 0
 ln : ∀ u i,2 ≤ u → u < 100 → fdR s u = (i,0) → (cnt es u : Int) = i.l
theorem Tv.same {s s' : Sg} {es : List En} (h : Tv s es) (hl : s'.l = s.l) (hd : s'.d = s.d) : Tv s' es:=by
 have he : ∀ k x,dE s' k x = dE s k x:=fun k x => by unfold dE; rw [hl,hd]
 have hf : ∀ u,fdR s' u = fdR s u:=fun u => fd_same hl hd u
 refine ⟨h.e.same he,fun k x hn => ?_,fun k x hn => ?_,fun u i h1 h2 hu => h.ln u i h1 h2 (by rw [← hf]; exact hu)⟩
 ·unfold dD; rw [hf]; rw [he] at hn; exact h.ex k x hn
 ·rw [he] at hn ⊢; rw [hf]; exact h.fd k x hn
theorem tv_make {j : Nat} {s : Sg} {es : List En} (nv : Nv j s) (rk : Rk s) (tv : Tv s es) (hj : j ≤ 60) {p : ByteArray} {k m : Int} (he : (drMake DgP s p k m).2.2 = 0) : ∃ es',Tv (drMake DgP s p k m).1 es' ∧ es'.length ≤ es.length + 1:=by
 obtain ⟨h1,h2,h3,md,hf,hpu,hok⟩:=make_md nv rk hj he
 have m0:=nv.n0
 have hd:=(spot_at h2).2.2.1
 have hlt:=nv.spot h2
 generalize (drSpot DgP s p).2.1.ino = io at *
 generalize (drMake DgP s p k m).1 = s1 at *
 change Sg at s1
 obtain ⟨e1,e2⟩:=tv.e.add h3 (show s.n ≠ 0 by omega) md.e
 have hno : cnt es s.n = 0:=tv.e.cnt_no (fun a b e => by have:=nv.lt a b; omega)
 refine ⟨_,⟨e1,fun a b hn => ?_,fun a b hn => ?_,fun u i hu1 hu9 hu => ?_⟩,Nat.le_refl _⟩
 ·rw [md.e] at hn
  by_cases hc : a = io ∧ b = parN p
  ·rw [hc.1]; exact dD_to (md.f io (by omega)) hd
  ·rw [if_neg hc] at hn
   have ha:=tv.ex a b hn
   have hne : a ≠ s.n:=fun e => by
    have:=nv.fr a b (by omega)
    exact hn this
   exact dD_to (md.f a hne) ha
 ·rw [md.e] at hn ⊢
  by_cases hc : a = io ∧ b = parN p
  ·rw [if_pos hc,hf]
  ·rw [if_neg hc] at hn ⊢
   rw [md.f _ (by have:=nv.lt a b; omega)]
   exact tv.fd a b hn
 ·rw [e2]
  by_cases hu2 : s.n = u
  ·subst hu2
   rw [hf] at hu
   obtain rfl:=(congrArg Prod.fst hu)
   rw [hno,if_pos rfl]
   rfl
  ·rw [if_neg hu2,Nat.add_zero]
   exact tv.ln u i hu1 hu9 (by rw [← md.f u (fun e => hu2 e.symm)]; exact hu)
theorem tv_link {j : Nat} {s : Sg} {es : List En} (nv : Nv j s) (rk : Rk s) (tv : Tv s es) (hj : j ≤ 40) {old p : ByteArray} (he : (drLink DgP s old p).2 = 0) : ∃ es',Tv (drLink DgP s old p).1 es' ∧ es'.length ≤ es.length + 1:=by
 obtain ⟨ino,m,l,z,h1,h2,h3,hf,hl1,hl2,hsp,h0,md,hf1⟩:=link_md nv rk hj he
 have m0:=nv.n0
 have hd:=(spot_at hsp).2.2.1
 have hnd : ¬ dD s ino:=fun q => q.2 (by rw [hf])
 generalize (drSpot DgP s p).2.1.ino = io at *
 generalize (drLink DgP s old p).1 = s1 at *
 change Sg at s1
 obtain ⟨e1,e2⟩:=tv.e.add h0 (show ino ≠ 0 by omega) md.e
 have hdd : ∀ a,dD s a → dD s1 a:=fun a ha => dD_to (md.f a (fun e => hnd (e ▸ ha))) ha
 refine ⟨_,⟨e1,fun a b hn => ?_,fun a b hn => ?_,fun u i hu1 hu9 hu => ?_⟩,Nat.le_refl _⟩
 ·rw [md.e] at hn
  by_cases hc : a = io ∧ b = parN p
  ·rw [hc.1]; exact hdd io hd
  ·rw [if_neg hc] at hn
   exact hdd a (tv.ex a b hn)
 ·rw [md.e] at hn ⊢
  by_cases hc : a = io ∧ b = parN p
  ·rw [if_pos hc,hf1]
  ·rw [if_neg hc] at hn ⊢
   by_cases hq : dE s a b = ino
   ·rw [hq,hf1]
   ·rw [md.f _ hq]
    exact tv.fd a b hn
 ·rw [e2]
  by_cases hu2 : ino = u
  ·subst hu2
   rw [hf1] at hu
   obtain rfl:=(congrArg Prod.fst hu)
   have:=tv.ln ino _ hu1 hu9 hf
   rw [if_pos rfl]
   dsimp only at this ⊢
   omega
  ·rw [if_neg hu2,Nat.add_zero]
   exact tv.ln u i hu1 hu9 (by rw [← md.f u (fun e => hu2 e.symm)]; exact hu)
theorem lk_put {s : Sg} {t m l z y : Int} (hb : 1 ≤ l + y ∧ l + y ≤ 15) (hy : y ≠ 0) (hf : fdR s t = (⟨1,m,l,z⟩,0)) (h : (lkR s t y).2.2 = 0) : (putX s.d (lC t (l + y))).2 = 0:=by
 refine Decidable.by_contra fun hp => ?_
 have e1:=set_e (s:={ s with R:=addK s.R t [2] }) (L:=l + y) hf
 rw [lk_e hf hb hy,e1] at h
 have hp' : (putX ({ s with R:=addK s.R t [2] } : Sg).d (lC t (l + y))).2 ≠ 0:=hp
 by_cases hi : inoOk 1 m (l + y) z = false
 ·rw [if_pos hi] at h
  exact absurd h (show ¬ (1 : Int) = 0 by decide)
 ·rw [if_neg hi,if_pos hp'] at h
  unfold lkE at h
  rw [if_pos hp'] at h
  exact hp' h
theorem gone_fd {t : Int} : ∀ (ps : List Pl) {s : Sg},Jv s → (∀ p ∈ ps,PlOk p ∧ p.part = 3) → fdR (goneL s ps).1 t = fdR s t
 | [],s,j,hp => by unfold goneL; rfl
 | p :: ps,s,j,hp => by
  obtain ⟨h1,h2⟩:=hp p List.mem_cons_self
  have e : fdR (gone1 s p) t = fdR s t:=by
   unfold fdR gone1
   dsimp only
   rw [vg_p j.d j.c (gone_ok h1),if_neg (fun q => ?_)]
   have e2:=plEq_iff.1 q.2
   rw [show (goneC p).pl = p from rfl] at e2
   rw [e2] at h2
   simp [recP] at h2
  unfold goneL
  split
  ·exact e
  ·exact (gone_fd ps (Jv_cl.put j (gone_ok h1)) (fun q hq => hp q (List.mem_cons_of_mem _ hq))).trans e
theorem rm_gone {s : Sg} (j : Jv s) {t : Int} (h0 : 0 < t) (h1 : t ≤ 4294967295) (h : (rmR s t).2 = 0) : (fdR (rmR s t).1 t).2 ≠ 0:=by
 have hb:=fd_bd j.d j.c t
 unfold rmR rmF at h ⊢
 by_cases hf : (fdR s t).2 ≠ 0
 ·rw [if_pos hf] at h; exact absurd h hf
 rw [if_neg hf] at h ⊢
 have jB : Jv (rmB s t (fdR s t).1):=by
  unfold rmB
  split
  ·exact Jv_cl.addR t _ j
  ·exact j
 generalize rmB s t (fdR s t).1 = S at *
 have hpl:=placesL_ok (i:=(fdR s t).1) (by omega : 0 ≤ t) h1 hb.s1
 obtain ⟨ps,hps⟩ : ∃ ps,placesL t (fdR s t).1 = recP t :: ps:=⟨_,rfl⟩
 have h3 : ∀ p ∈ ps,p.part = 3:=by
  intro p hp
  have e : recP t :: ps = recP t :: (List.range (if (fdR s t).1.k = 1 then ((fdR s t).1.s.toNat + 31) / 32 else 0)).map fun (k : Nat) => datP t (k : Int):=hps.symm
  simp only [List.cons.injEq,true_and] at e
  rw [e] at hp
  obtain ⟨k,_,rfl⟩:=List.mem_map.1 hp
  rfl
 rw [hps] at h hpl ⊢
 have hpr : PlOk (recP t):=hpl _ List.mem_cons_self
 have hE : goneE S (recP t) = 0:=by
  refine Decidable.by_contra fun hq => ?_
  have e : goneL S (recP t :: ps) = (gone1 S (recP t),goneE S (recP t)):=if_pos hq
  rw [e] at h
  unfold rmE at h
  rw [if_pos hq] at h
  exact hq h
 have e : goneL S (recP t :: ps) = goneL (gone1 S (recP t)) ps:=if_neg (by simpa using hE)
 rw [e]
 have hg:=gone_fd (t:=t) ps (s:=gone1 S (recP t)) (Jv_cl.put jB (gone_ok hpr)) (fun p hp => ⟨hpl p (List.mem_cons_of_mem _ hp),h3 p hp⟩)
 have hs : (fdR (gone1 S (recP t)) t).2 = 220:=by
  unfold fdR gone1
  dsimp only
  rw [vg_p jB.d jB.c (gone_ok hpr),if_pos ⟨hE,plEq_iff.2 rfl⟩]
  exact fd_stale (by omega) _ _
 generalize goneL (gone1 S (recP t)) ps = G at *
 unfold rmE
 split
 ·rw [hg,hs]; decide
 ·show (fdR G.1 t).2 ≠ 0
  rw [hg,hs]; decide
structure Aw (s s' : Sg) (x : Spt) : Prop where
 ok : SptOk x
 t0 : x.to ≠ 0
 e0 : dE s x.ino x.name = x.to
 e : ∀ a b,dE s' a b = if a = x.ino ∧ b = x.name then 0 else dE s a b
 f : ∀ u,u ≠ x.to → fdR s' u = fdR s u
 g : ∃ k m l z,fdR s x.to = (⟨k,m,l,z⟩,0) ∧ (k ≠ 1 → ∀ b,dE s x.to b = 0) ∧ ((l = 1 ∧ (fdR s' x.to).2 ≠ 0) ∨ (2 ≤ l ∧ k = 1 ∧ fdR s' x.to = (⟨k,m,l - 1,z⟩,0)))
theorem tv_away {j : Nat} {s s' : Sg} {x : Spt} {es : List En} (nv : Nv j s) (tv : Tv s es) (hj : j ≤ 60) (aw : Aw s s' x) : ∃ es',Tv s' es' ∧ es'.length ≤ es.length + 1:=by
 have m0:=nv.n0
 have m1:=nv.n1
 obtain ⟨k,m,l,z,hf,hk,hg⟩:=aw.g
 obtain ⟨es',e1,e2,e3⟩:=tv.e.del aw.e0 aw.t0 aw.e
 have hlt:=nv.lt x.ino x.name
 have hr1:=nv.r1 x.ino x.name
 have hge:=(dE_bd nv.iv.d x.ino x.name).1
 have ht0:=aw.t0
 rw [aw.e0] at hlt hr1 hge
 have hc:=tv.ln x.to _ (by omega) (by omega) hf
 have hc2:=e2 x.to
 rw [if_pos rfl] at hc2
 have hold : ∀ a b,dE s' a b ≠ 0 → dE s a b ≠ 0 ∧ dE s' a b = dE s a b:=fun a b hn => by
  rw [aw.e] at hn ⊢
  by_cases hq : a = x.ino ∧ b = x.name
  ·rw [if_pos hq] at hn; exact absurd rfl hn
  ·rw [if_neg hq] at hn ⊢; exact ⟨hn,rfl⟩
 refine ⟨es',⟨e1,fun a b hn => ?_,fun a b hn => ?_,fun u i hu1 hu9 hu => ?_⟩,by omega⟩
 ·obtain ⟨q1,q2⟩:=hold a b hn
  have hd:=tv.ex a b q1
  refine dD_to (aw.f a (fun e => ?_)) hd
  subst e
  by_cases hk1 : k = 1
  ·exact hd.2 (by rw [hf]; exact hk1)
  ·exact q1 (hk hk1 b)
 ·obtain ⟨q1,q2⟩:=hold a b hn
  by_cases hq : dE s' a b = x.to
  ·have hp:=e1.cnt_of hn
   rw [hq] at hp ⊢
   rcases hg with ⟨h1,_⟩ | ⟨_,_,h3⟩
   ·exfalso
    have hc' : (cnt es x.to : Int) = l:=hc
    omega
   ·rw [h3]
  ·rw [aw.f _ hq,q2]
   exact tv.fd a b q1
 ·by_cases hq : u = x.to
  ·subst hq
   rcases hg with ⟨_,h2⟩ | ⟨_,_,h3⟩
   ·exact absurd (by rw [hu]) h2
   ·rw [h3] at hu
    obtain rfl:=congrArg Prod.fst hu
    have hc' : (cnt es x.to : Int) = l:=hc
    show (cnt es' x.to : Int) = l - 1
    omega
  ·rw [aw.f u hq] at hu
   have:=tv.ln u i hu1 hu9 hu
   have h4:=e2 u
   rw [if_neg (fun e => hq e.symm)] at h4
   omega
theorem ents_none {s : Sg} (hl : s.l = rootL) (hd : DlOk s.d) {n : Int} (h0 : 2 ≤ n) (h1 : n < 100) (h : namesV s.l s.d n = []) : ∀ x,dE s n x = 0:=by
 intro x
 have hs : nmS ((rootL.drop (fdN rootL (spF n 2))).takeWhile fun p => ltS p.1 (spT n 2)) = []:=by
  have q:=List.all_eq_true.1 seg_none n.toNat (List.mem_range.2 (by omega))
  rw [show ((n.toNat : Nat) : Int) = n by omega,decide_eq_false (show ¬ n.toNat < 2 by omega),Bool.false_or] at q
  exact List.isEmpty_iff.1 q
 unfold namesV at h
 rw [hl,hs] at h
 have h' : setN (kept n s.d.L) = []:=h
 unfold dE vgR
 rw [hl]
 cases hg : getL s.d.L (entP n x) with
 | none =>
  have hi : isX s.d (entP n x) = false:=by unfold isX; rw [hg]; rfl
  rw [hi]
  exact base_ent n x
 | some c =>
  obtain ⟨hm,hpl⟩:=(getL_some hd.L.rise).1 hg
  have hi : isX s.d (entP n x) = true:=by unfold isX; rw [hg]; rfl
  have hw : wasX s.d (entP n x) = c:=by unfold wasX; rw [hg]; rfl
  rw [hi,if_pos rfl,hw]
  unfold chL chR
  cases hgo : c.gone with
  | true => rw [if_pos rfl]; rfl
  | false =>
   exfalso
   have hk : c ∈ kept n s.d.L:=by
    refine List.mem_filter.2 ⟨hm,?_⟩
    unfold keepE
    rw [hpl]
    simp [entP]
   have hc : c ∈ (kept n s.d.L).filter fun c => !c.gone:=List.mem_filter.2 ⟨hk,by rw [hgo]; rfl⟩
   unfold setN at h'
   have:=List.map_eq_nil_iff.1 h'
   rw [this] at hc
   exact absurd hc List.not_mem_nil
theorem un_all {D : Sgd} {s : D.G.S} {p : ByteArray} (h : (drUnlink D s p).2 = 0) : ∃ s1 x s2,drTaken D s p = (s1,x,0) ∧ (drKind D s1 x.to 2 193).2 = 0 ∧ drAway D (drKind D s1 x.to 2 193).1 x = (s2,0) ∧ (drUnlink D s p).1 = (D.lk s2 x.to (-1)).1 ∧ (D.lk s2 x.to (-1)).2.2 = 0:=by
 unfold drUnlink at h ⊢
 obtain ⟨⟨s1,x,e1⟩,hf⟩ : ∃ r,drTaken D s p = r:=⟨_,rfl⟩
 rw [hf] at h ⊢
 unfold drUnlink0 at h ⊢
 dsimp only at h ⊢
 by_cases h1 : e1 ≠ 0
 ·rw [if_pos h1] at h; exact absurd h h1
 rw [if_neg h1] at h ⊢
 unfold drUnlink1 at h ⊢
 by_cases h2 : (drKind D s1 x.to 2 193).2 ≠ 0
 ·rw [if_pos h2] at h; exact absurd h h2
 rw [if_neg h2] at h ⊢
 obtain ⟨⟨s2,e2⟩,hg⟩ : ∃ r,drAway D (drKind D s1 x.to 2 193).1 x = r:=⟨_,rfl⟩
 rw [hg] at h ⊢
 unfold drUnlink2 at h ⊢
 dsimp only at h ⊢
 by_cases h3 : e2 ≠ 0
 ·rw [if_pos h3] at h; exact absurd h h3
 rw [if_neg h3] at h ⊢
 obtain rfl:=Decidable.not_not.1 h1
 obtain rfl:=Decidable.not_not.1 h3
 exact ⟨s1,x,s2,rfl,Decidable.not_not.1 h2,hg,rfl,h⟩
theorem rd_all {D : Sgd} {s : D.G.S} {p : ByteArray} (h : (drRmdir D s p).2 = 0) : ∃ s1 x s2 s3,drTaken D s p = (s1,x,0) ∧ (drKind D s1 x.to 1 192).2 = 0 ∧ D.nms (drKind D s1 x.to 1 192).1 x.to = (s2,[],0) ∧ drAway D s2 x = (s3,0) ∧ (drRmdir D s p).1 = (D.rm s3 x.to).1 ∧ (D.rm s3 x.to).2 = 0:=by
 unfold drRmdir at h ⊢
 obtain ⟨⟨s1,x,e1⟩,hf⟩ : ∃ r,drTaken D s p = r:=⟨_,rfl⟩
 rw [hf] at h ⊢
 unfold drRmdir0 at h ⊢
 dsimp only at h ⊢
 by_cases h1 : e1 ≠ 0
 ·rw [if_pos h1] at h; exact absurd h h1
 rw [if_neg h1] at h ⊢
 unfold drRmdir1 at h ⊢
 by_cases h2 : (drKind D s1 x.to 1 192).2 ≠ 0
 ·rw [if_pos h2] at h; exact absurd h h2
 rw [if_neg h2] at h ⊢
 obtain ⟨⟨s2,nl,e2⟩,hn⟩ : ∃ r,D.nms (drKind D s1 x.to 1 192).1 x.to = r:=⟨_,rfl⟩
 rw [hn] at h ⊢
 unfold drRmdir2 at h ⊢
 dsimp only at h ⊢
 by_cases h3 : e2 ≠ 0
 ·rw [if_pos h3] at h; exact absurd h h3
 rw [if_neg h3] at h ⊢
 by_cases h5 : 0 < nl.length
 ·rw [if_pos h5] at h; exact absurd h (show ¬ (194 : Int) = 0 by decide)
 rw [if_neg h5] at h ⊢
 obtain ⟨⟨s3,e3⟩,hg⟩ : ∃ r,drAway D s2 x = r:=⟨_,rfl⟩
 rw [hg] at h ⊢
 unfold drRmdir3 at h ⊢
 dsimp only at h ⊢
 by_cases h4 : e3 ≠ 0
 ·rw [if_pos h4] at h; exact absurd h h4
 rw [if_neg h4] at h ⊢
 obtain rfl:=Decidable.not_not.1 h1
 obtain rfl:=Decidable.not_not.1 h3
 obtain rfl:=Decidable.not_not.1 h4
 obtain rfl : nl = []:=List.eq_nil_of_length_eq_zero (by omega)
 exact ⟨s1,x,s2,s3,rfl,Decidable.not_not.1 h2,hn,hg,rfl,h⟩
theorem aw_unlink {j : Nat} {s : Sg} (nv : Nv j s) (rk : Rk s) (hj : j ≤ 60) {p : ByteArray} (he : (drUnlink DgP s p).2 = 0) : ∃ x,Aw s (drUnlink DgP s p).1 x:=by
 obtain ⟨s1,x,s2,ht,hk,hg,e,h0⟩:=un_all (D:=DgP) he
 rw [e]
 have m1:=nv.n1
 have hv:=drTaken_vs s p
 have ho:=drTaken_ok (s:=s) nv.iv.d (p:=p) (by rw [ht])
 rw [ht] at hv ho
 dsimp only at hv ho
 obtain ⟨hx,hto,hne⟩:=ho
 obtain ⟨k1,k2⟩:=drKind_0 (s:=s1) (by decide) hk
 rw [hv.f] at k1 k2
 have hk1 : (fdR s x.to).1.k = 1:=by rcases nv.kd k1 with e | e; exact e; exact absurd e k2
 obtain ⟨⟨k,m,l,z⟩,hi⟩ : ∃ i,(fdR s x.to).1 = i:=⟨_,rfl⟩
 rw [hi] at hk1
 have hk1' : k = 1:=hk1
 subst hk1'
 have hfd : fdR s x.to = (⟨1,m,l,z⟩,0):=Prod.ext hi k1
 have hbd:=nv.iv.ok x.to k1
 rw [hi] at hbd
 obtain ⟨b1,b2⟩:=ino_iff.1 hbd
 have hl1 : 1 ≤ l ∧ l ≤ 15:=by
  rcases b2 with ⟨_,q1,q2,_⟩ | ⟨q,_⟩
  ·exact ⟨q1,q2⟩
  ·exact absurd q (show ¬ (1 : Int) = 2 by decide)
 have hg2 : (drWrite DgP s1 x.ino x.name (goneC (entP x.ino x.name))).2 = 0:=congrArg Prod.snd hg
 have hg1 : (drWrite DgP s1 x.ino x.name (goneC (entP x.ino x.name))).1 = s2:=congrArg Prod.fst hg
 have rk1:=rk.vs hv
 obtain ⟨w1,w2,w3,w4⟩:=ent_gone rk1.iv (goneE_ok hx.i0 hx.i1 hx.n8) hg2
 have jv2:=dw_jv rk1.j (goneE_ok hx.i0 hx.i1 hx.n8) hg2
 rw [hg1] at w1 w2 w3 w4 jv2
 change Sg at s2
 have hf2 : fdR s2 x.to = (⟨1,m,l,z⟩,0):=by rw [w2,hv.f]; exact hfd
 have h0' : (lkR s2 x.to (-1)).2.2 = 0:=h0
 have L:=(Lk.refl x.to s2).link (y:=-1) jv2 hx.t0 hx.t1
 have hr1:=nv.r1 x.ino x.name
 refine ⟨x,hx,hne,hto.symm,fun a b => ?_,fun u hu => ?_,1,m,l,z,hfd,fun q => absurd rfl q,?_⟩
 ·show dE (lkR s2 x.to (-1)).1 a b = _
  rw [L.e,w1,hv.e]
 ·show fdR (lkR s2 x.to (-1)).1 u = _
  rw [L.f u hu,w2,hv.f]
 ·by_cases hl : l = 1
  ·left
   subst hl
   refine ⟨rfl,?_⟩
   have e2 : lkR s2 x.to (-1) = lkE (rmR { s2 with R:=addK s2.R x.to [2] } x.to) 0:=by
    unfold lkR
    rw [hf2,if_neg (by simp),if_neg (by simp)]
    unfold lkB
    rw [if_neg (by simp),if_pos (by simp)]
   show (fdR (lkR s2 x.to (-1)).1 x.to).2 ≠ 0
   rw [e2] at h0' ⊢
   have jR : Jv { s2 with R:=addK s2.R x.to [2] }:=Jv_cl.addR x.to _ jv2
   have hq : (rmR { s2 with R:=addK s2.R x.to [2] } x.to).2 = 0:=by
    refine Decidable.by_contra fun hq => ?_
    unfold lkE at h0'
    rw [if_pos hq] at h0'
    exact hq h0'
   have hgo:=rm_gone jR (t:=x.to) (by have:=hx.t0; omega) hx.t1 hq
   rw [lkE_st]
   exact hgo
  ·right
   have hp:=lk_put (y:=-1) ⟨by omega,by omega⟩ (by decide) hf2 h0'
   obtain ⟨_,_,_,c4⟩:=lk_can w3 (y:=-1) hx.t0 hx.t1 hf2 ⟨by omega,by omega⟩ (by decide) hp
   exact ⟨by omega,rfl,by rw [show l - 1 = l + -1 by omega]; exact c4⟩
theorem aw_rmdir {j : Nat} {s : Sg} (nv : Nv j s) (rk : Rk s) (hj : j ≤ 60) {p : ByteArray} (he : (drRmdir DgP s p).2 = 0) : ∃ x,Aw s (drRmdir DgP s p).1 x:=by
 obtain ⟨s1,x,s2,s3,ht,hk,hm,hg,e,h0⟩:=rd_all (D:=DgP) he
 rw [e]
 have m1:=nv.n1
 have hv:=drTaken_vs s p
 have ho:=drTaken_ok (s:=s) nv.iv.d (p:=p) (by rw [ht])
 rw [ht] at hv ho
 dsimp only at hv ho
 obtain ⟨hx,hto,hne⟩:=ho
 have hm' : nmsR s1 x.to = (s2,[],0):=hm
 have hlt:=nv.lt x.ino x.name
 have hr1:=nv.r1 x.ino x.name
 rw [← hto] at hlt hr1
 have hge:=hx.t0
 have rk1:=rk.vs hv
 have hnn : namesV s1.l s1.d x.to = []:=congrArg (fun r => r.2.1) hm'
 have hno:=ents_none rk1.l rk1.iv.d (by omega) (by omega) hnn
 have hv2 : Vs s1 s2:=by
  have e2 : s2 = (nmsR s1 x.to).1:=by rw [hm']
  rw [e2]; exact ⟨rfl,rfl,rfl⟩
 obtain ⟨k1,k2⟩:=drKind_0 (s:=s1) (by decide) hk
 rw [hv.f] at k1 k2
 have hk1 : (fdR s x.to).1.k = 2:=by rcases nv.kd k1 with e | e; exact absurd e k2; exact e
 obtain ⟨⟨k,m,l,z⟩,hi⟩ : ∃ i,(fdR s x.to).1 = i:=⟨_,rfl⟩
 rw [hi] at hk1
 have hk1' : k = 2:=hk1
 subst hk1'
 have hfd : fdR s x.to = (⟨2,m,l,z⟩,0):=Prod.ext hi k1
 have hbd:=nv.iv.ok x.to k1
 rw [hi] at hbd
 obtain ⟨b1,b2⟩:=ino_iff.1 hbd
 have hl1 : l = 1:=by
  rcases b2 with ⟨q,_⟩ | ⟨_,q,_⟩
  ·exact absurd q (show ¬ (2 : Int) = 1 by decide)
  ·exact q
 have hv':=hv.trans hv2
 have rk2:=rk.vs hv'
 have hg2 : (drWrite DgP s2 x.ino x.name (goneC (entP x.ino x.name))).2 = 0:=congrArg Prod.snd hg
 have hg1 : (drWrite DgP s2 x.ino x.name (goneC (entP x.ino x.name))).1 = s3:=congrArg Prod.fst hg
 obtain ⟨w1,w2,w3,w4⟩:=ent_gone rk2.iv (goneE_ok hx.i0 hx.i1 hx.n8) hg2
 have jv3:=dw_jv rk2.j (goneE_ok hx.i0 hx.i1 hx.n8) hg2
 rw [hg1] at w1 w2 w3 w4 jv3
 change Sg at s3
 have L:=(Lk.refl x.to s3).rm jv3 hx.t0 hx.t1
 have h0' : (rmR s3 x.to).2 = 0:=h0
 refine ⟨x,hx,hne,hto.symm,fun a b => ?_,fun u hu => ?_,2,m,l,z,hfd,fun _ b => by rw [← hv.e]; exact hno b,.inl ⟨hl1,?_⟩⟩
 ·show dE (rmR s3 x.to).1 a b = _
  rw [L.e,w1,hv'.e]
 ·show fdR (rmR s3 x.to).1 u = _
  rw [L.f u hu,w2,hv'.f]
 ·exact rm_gone jv3 (by omega) hx.t1 h0'
theorem tv_rename {j : Nat} {s : Sg} {es : List En} (nv : Nv j s) (rk : Rk s) (tv : Tv s es) {old p : ByteArray} (he : (drRename DgP s old p).2 = 0) : ∃ es',Tv (drRename DgP s old p).1 es' ∧ es'.length ≤ es.length + 1:=by
 obtain ⟨s1,x,b,s2,y,s3,ht,hb,hf,hg,hs,e⟩:=rn_cases (D:=DgP) he
 rw [e]
 have hv:=drTaken_vs s old
 have ho:=drTaken_ok (s:=s) nv.iv.d (p:=old) (by rw [ht])
 rw [ht] at hv ho
 dsimp only at hv ho
 obtain ⟨hx,hto,hne⟩:=ho
 have hvb : Vs s b:=by
  rcases hb with rfl | rfl
  ·exact hv
  ·exact ⟨hv.l,hv.d,hv.n⟩
 have hv2:=drFree_vs b p
 have hy:=drFree_ok (s:=b) (by rw [hvb.d]; exact nv.iv.d) (p:=p) (by rw [hf])
 obtain ⟨g1,g2,g3⟩:=spot_free (s:=b) (p:=p) (by rw [hf])
 obtain ⟨_,_,gd,_,g4,g5⟩:=spot_at g1
 rw [hf] at g3 hv2 hy
 have ey : (drSpot DgP b p).2.1 = y:=by rw [← g3]
 rw [ey] at g2 g4 g5 gd
 dsimp only at hv2 hy
 have hvv:=hvb.trans hv2
 have rk2:=rk.vs hvv
 have hg2 : (drWrite DgP s2 x.ino x.name (goneC (entP x.ino x.name))).2 = 0:=congrArg Prod.snd hg
 have hg1 : (drWrite DgP s2 x.ino x.name (goneC (entP x.ino x.name))).1 = s3:=congrArg Prod.fst hg
 obtain ⟨a1,a2,a3,a4⟩:=ent_gone rk2.iv (goneE_ok hx.i0 hx.i1 hx.n8) hg2
 rw [hg1] at a1 a2 a3 a4
 change Sg at s3
 have hc : CgOk (toC y.ino y.name x.to):=toC_ok hy.i0 hy.i1 hy.n8 hx.t0 hx.t1
 obtain ⟨w1,w2,w3,w4⟩:=ent_set a3 hc hs
 obtain ⟨s4,hs4⟩ : ∃ s4 : Sg,(drWrite DgP s3 y.ino y.name (toC y.ino y.name x.to)).1 = s4:=⟨_,rfl⟩
 rw [hs4] at w1 w2
 show ∃ es',Tv (drWrite DgP s3 y.ino y.name (toC y.ino y.name x.to)).1 es' ∧ es'.length ≤ es.length + 1
 rw [hs4]
 have hE3 : ∀ a b,dE s3 a b = if a = x.ino ∧ b = x.name then 0 else dE s a b:=fun a b => by rw [a1,hvv.e]
 have hF : ∀ u,fdR s4 u = fdR s u:=fun u => by rw [w2,a2,hvv.f]
 obtain ⟨es1,e1,c1,c3⟩:=tv.e.del hto.symm hne hE3
 have hy0 : dE s3 y.ino y.name = 0:=by
  rw [hE3]
  by_cases hq : y.ino = x.ino ∧ y.name = x.name
  ·rw [if_pos hq]
  ·rw [if_neg hq]
   have : y.to = dE b y.ino (parN p):=g5
   rw [hvb.e,← g4] at this
   rw [← this]; exact g2
 obtain ⟨e2,c2⟩:=e1.add hy0 hne w1
 have hyd : dD s y.ino:=dD_of (hvb.f _) gd
 have hall : ∀ a b,dE s4 a b ≠ 0 → (a = y.ino ∧ dE s4 a b = x.to) ∨ (dE s a b ≠ 0 ∧ dE s4 a b = dE s a b):=fun a b hn => by
  rw [w1] at hn ⊢
  by_cases hq : a = y.ino ∧ b = y.name
  ·rw [if_pos hq]; exact .inl ⟨hq.1,rfl⟩
  ·rw [if_neg hq] at hn ⊢
   rw [hE3] at hn ⊢
   by_cases hq2 : a = x.ino ∧ b = x.name
   ·rw [if_pos hq2] at hn; exact absurd rfl hn
   ·rw [if_neg hq2] at hn ⊢; exact .inr ⟨hn,rfl⟩
 refine ⟨_,⟨e2,fun a b hn => ?_,fun a b hn => ?_,fun u i hu1 hu9 hu => ?_⟩,by simp only [List.length_cons]; omega⟩
 ·rcases hall a b hn with ⟨q,_⟩ | ⟨q,_⟩
  ·rw [q]; exact dD_to (hF _) hyd
  ·exact dD_to (hF _) (tv.ex a b q)
 ·rw [hF]
  rcases hall a b hn with ⟨_,q⟩ | ⟨q,q2⟩
  ·rw [q,hto]
   exact tv.fd _ _ (by rw [← hto]; exact hne)
  ·rw [q2]; exact tv.fd a b q
 ·rw [hF] at hu
  have h3:=tv.ln u i hu1 hu9 hu
  have h4:=c1 u
  have h5:=c2 u
  rw [h5]
  rw [h4] at h3
  exact h3
theorem root_alone : (List.range 100).all (fun n => decide (n < 2) || decide ((fdR (sg0 rootL 64 2) (n : Int)).2 ≠ 0)) = true:=by kernel_rfl
theorem tv_0 : Tv (sg0 rootL 64 2) []:=by
 have hE : ∀ k x,dE (sg0 rootL 64 2) k x = 0:=fun k x => by
  have e : vgR (sg0 rootL 64 2).l (sg0 rootL 64 2).d (entP k x) = (stI rootL (entP k x),stB rootL (entP k x),stE rootL (entP k x)):=vg_new rootL 64 (entP k x)
  unfold dE
  rw [e]
  exact base_ent k x
 refine ⟨⟨List.nodup_nil,fun e => ⟨fun h => absurd h List.not_mem_nil,fun h => absurd (h.2.symm.trans (hE _ _)) h.1⟩⟩,fun k x h => absurd (hE k x) h,fun k x h => absurd (hE k x) h,fun u i h0 h1 hu => ?_⟩
 exfalso
 have q:=List.all_eq_true.1 root_alone u.toNat (List.mem_range.2 (by omega))
 rw [show ((u.toNat : Nat) : Int) = u by omega,decide_eq_false (show ¬ u.toNat < 2 by omega),Bool.false_or,decide_eq_true_eq] at q
 exact q (by rw [hu])
def Nt (i : Nat) (s : Sg) : Prop:=Nv i s ∧ s.l = rootL ∧ ∃ es,Tv s es ∧ es.length ≤ i
theorem nt_sc : Sc Nt where
 z:=⟨nv_0,rfl,[],tv_0,Nat.le_refl _⟩
 s:=fun {i s} o hi j h ho he r => by
  obtain ⟨nv,hl,es,tv,hle⟩:=h
  have up : ∀ {t : Sg},(∃ es',Tv t es' ∧ es'.length ≤ es.length + 1) → ∃ es',Tv t es' ∧ es'.length ≤ i + 1:=fun ⟨es',h1,h2⟩ => ⟨es',h1,by omega⟩
  have rk : Rk s:=⟨hl,j,nv.iv⟩
  refine ⟨nv_sc.s o hi j nv ho he r,r.2.l.trans hl,?_⟩
  refine doneR_ind (M:=fun r => r.2 = 0 → ∃ es',Tv r.1 es' ∧ es'.length ≤ i + 1) (fun he => up (tv_make nv rk tv (by omega) he)) (fun he => up (tv_link nv rk tv (by omega) he)) (fun he => ?_) (fun he => ?_) (fun he => up (tv_rename nv rk tv he)) (fun _ => ⟨es,tv,by omega⟩) he
  ·obtain ⟨x,aw⟩:=aw_unlink nv rk (by omega) he
   exact up (tv_away nv tv (by omega) aw)
  ·obtain ⟨x,aw⟩:=aw_rmdir nv rk (by omega) he
   exact up (tv_away nv tv (by omega) aw)
 b:=fun o hi j h hl hd hn => by
  obtain ⟨nv,h2,es,tv,hle⟩:=h
  exact ⟨nv_sc.b o hi j nv hl hd hn,hl.trans h2,es,tv.same hl hd,by omega⟩
def wyT (s : Sg) : List ByteArray → Int → Int → Prop
 | [],t,u => t = u
 | x :: ns,t,u => dD s t ∧ nameOk x = true ∧ dE s t x ≠ 0 ∧ wyT s ns (dE s t x) u
def wyN (s : Sg) (t0 : Int) : List ByteArray → Int → Int → Prop
 | [],t,u => t = u
 | x :: ns,t,u => dD s t ∧ nameOk x = true ∧ dE s t x ≠ 0 ∧ dE s t x ≠ t0 ∧ wyN s t0 ns (dE s t x) u
theorem wy_app {s : Sg} : ∀ {ns ms : List ByteArray} {t u : Int},wyT s (ns ++ ms) t u ↔ ∃ v,wyT s ns t v ∧ wyT s ms v u
 | [],ms,t,u => ⟨fun h => ⟨t,rfl,h⟩,fun ⟨v,h1,h2⟩ => by have h1' : t = v:=h1; rw [h1']; exact h2⟩
 | x :: ns,ms,t,u => by
  constructor
  ·rintro ⟨h1,h2,h3,h4⟩
   obtain ⟨v,h5,h6⟩:=wy_app.1 h4
   exact ⟨v,⟨h1,h2,h3,h5⟩,h6⟩
  ·rintro ⟨v,⟨h1,h2,h3,h5⟩,h6⟩
   exact ⟨h1,h2,h3,wy_app.2 ⟨v,h5,h6⟩⟩
theorem wy_snoc {s : Sg} {ns : List ByteArray} {x : ByteArray} {t u : Int} : wyT s (ns ++ [x]) t u ↔ ∃ v,wyT s ns t v ∧ dD s v ∧ nameOk x = true ∧ dE s v x = u ∧ u ≠ 0:=by
 rw [wy_app]
 constructor
 ·rintro ⟨v,h1,h2,h3,h4,h5⟩
  have h5' : dE s v x = u:=h5
  exact ⟨v,h1,h2,h3,h5',by rw [← h5']; exact h4⟩
 ·rintro ⟨v,h1,h2,h3,h4,h5⟩
  exact ⟨v,h1,h2,h3,by rw [h4]; exact h5,h4⟩
theorem wy_vs {s s' : Sg} (h : Vs s s') : ∀ {ns : List ByteArray} {t u : Int},wyT s ns t u → wyT s' ns t u
 | [],t,u,w => w
 | x :: ns,t,u,⟨h1,h2,h3,h4⟩ => ⟨dD_to (h.f t) h1,h2,by rw [h.e]; exact h3,by rw [h.e]; exact wy_vs h h4⟩
theorem wy_dn {s : Sg} : ∀ {ns : List ByteArray} {t u : Int},(∀ x ∈ ns,nameOk x = true) → (dnD ns s t).2 = (u,0) → wyT s ns t u
 | [],t,u,hn,h => congrArg Prod.fst h
 | x :: ns,t,u,hn,h => by
  rw [dnD_eq] at h
  by_cases hc : (dnS s t x).2.2 ≠ 0
  ·rw [if_pos hc] at h
   exact absurd (congrArg Prod.snd h) hc
  rw [if_neg hc] at h
  obtain ⟨_,g2,g3,g4⟩:=step_good (Decidable.not_not.1 hc)
  have ih:=wy_dn (s:=(dnS s t x).1) (fun y hy => hn y (List.mem_cons_of_mem _ hy)) h
  rw [g2] at ih
  exact ⟨g4,hn x List.mem_cons_self,g3,wy_vs (step_st (s:=s) (t:=t) (x:=x)).symm ih⟩
theorem wy_one {i : Nat} {s : Sg} (nv : Nv i s) : ∀ (n : Nat) {ns ms : List ByteArray} {u : Int},ns.length = n → wyT s ns 1 u → wyT s ms 1 u → dD s u → ns = ms
 | n,ns,ms,u,hn,h1,h2,hd => by
  rcases List.eq_nil_or_concat ns with rfl | ⟨a,x,rfl⟩
  ·have hu : (1 : Int) = u:=h1
   rcases List.eq_nil_or_concat ms with rfl | ⟨b,y,rfl⟩
   ·rfl
   ·rw [List.concat_eq_append] at h2
    obtain ⟨w,_,_,_,q,_⟩:=wy_snoc.1 h2
    exact absurd (q.trans hu.symm) (nv.r1 _ _)
  ·rw [List.concat_eq_append] at h1 hn ⊢
   obtain ⟨v,a1,a2,a3,a4,a5⟩:=wy_snoc.1 h1
   rcases List.eq_nil_or_concat ms with rfl | ⟨b,y,rfl⟩
   ·have hu : (1 : Int) = u:=h2
    exact absurd (a4.trans hu.symm) (nv.r1 _ _)
   ·rw [List.concat_eq_append] at h2 ⊢
    obtain ⟨w,b1,b2,b3,b4,b5⟩:=wy_snoc.1 h2
    obtain ⟨rfl,rfl⟩:=nv.un v x w y (by rw [a4]; exact a5) (a4.trans b4.symm) (by rw [a4]; exact hd)
    rw [List.length_append] at hn
    have:=wy_one nv a.length rfl a1 b1 a2
    rw [this]
termination_by n => n
decreasing_by simp at hn; omega
theorem wy_split {s : Sg} (t0 : Int) : ∀ {ns : List ByteArray} {t u : Int},wyT s ns t u → wyN s t0 ns t u ∨ ∃ n1 n2,ns = n1 ++ n2 ∧ wyT s n1 t t0 ∧ n1 ≠ [] ∧ wyN s t0 n2 t0 u
 | [],t,u,h => .inl h
 | x :: ns,t,u,⟨h1,h2,h3,h4⟩ => by
  rcases wy_split t0 h4 with h5 | ⟨n1,n2,rfl,h6,h7,h8⟩
  ·by_cases hv : dE s t x = t0
   ·exact .inr ⟨[x],ns,rfl,⟨h1,h2,h3,hv⟩,by simp,by rw [← hv]; rw [hv] at h5 ⊢; exact h5⟩
   ·exact .inl ⟨h1,h2,h3,hv,h5⟩
  ·exact .inr ⟨x :: n1,n2,rfl,⟨h1,h2,h3,h6⟩,by simp,h8⟩
theorem wyN_keep {s s' : Sg} {t0 : Int} (hE : ∀ a b,dE s a b ≠ 0 → dD s (dE s a b) → dE s a b ≠ t0 → dE s' a b = dE s a b) (hF : ∀ v,dD s v → v ≠ t0 → dD s' v) : ∀ {ns : List ByteArray} {t u : Int},wyN s t0 ns t u → dD s u → (ns ≠ [] → dD s' t) → wyT s' ns t u
 | [],t,u,h,hu,ht => h
 | x :: ns,t,u,⟨h1,h2,h3,h4,h5⟩,hu,ht => by
  have hd : dD s (dE s t x):=by
   cases ns with
   | nil => have e : dE s t x = u:=h5; rw [e]; exact hu
   | cons y ns => exact h5.1
  have e:=hE t x h3 hd h4
  refine ⟨ht (by simp),h2,by rw [e]; exact h3,?_⟩
  rw [e]
  exact wyN_keep hE hF h5 hu (fun _ => hF _ hd h4)
theorem wyN_file {s : Sg} {t0 : Int} (h0 : ¬ dD s t0) {ns : List ByteArray} {t u : Int} (h : wyT s ns t u) (hu : dD s u) : wyN s t0 ns t u:=by
 rcases wy_split t0 h with h1 | ⟨n1,n2,rfl,h2,_,h4⟩
 ·exact h1
 ·exfalso
  cases n2 with
  | nil => have e : t0 = u:=h4; exact h0 (e ▸ hu)
  | cons y n2 => exact h0 h4.1
theorem wyN_empty {s : Sg} {t0 : Int} (h0 : ∀ b,dE s t0 b = 0) {ns : List ByteArray} {t u : Int} (h : wyT s ns t u) (hu : u ≠ t0) : wyN s t0 ns t u:=by
 rcases wy_split t0 h with h1 | ⟨n1,n2,rfl,h2,_,h4⟩
 ·exact h1
 ·exfalso
  cases n2 with
  | nil => have e : t0 = u:=h4; exact hu e.symm
  | cons y n2 => exact h4.2.2.1 (h0 y)
def Rch (s : Sg) : Prop:=∀ u,0 < u → u < 100 → dD s u → ∃ ns,wyT s ns 1 u
theorem Rch.same {s s' : Sg} (h : Rch s) (hl : s'.l = s.l) (hd : s'.d = s.d) (hn : s'.n = s.n) : Rch s':=fun u h0 h1 hu => by
 have hv : Vs s s':=⟨hl,hd,hn⟩
 obtain ⟨ns,w⟩:=h u h0 h1 (dD_of (hv.f u) hu)
 exact ⟨ns,wy_vs hv w⟩
theorem spot_wy {s : Sg} {p : ByteArray} (h : (drSpot DgP s p).2.2 = 0) : wyT s (parL p) 1 (drSpot DgP s p).2.1.ino ∧ nameOk (parN p) = true:=by
 obtain ⟨h0,h1,h2,h3,h4,h5⟩:=spot_at h
 obtain ⟨n1,n2⟩:=par_names h0
 refine ⟨wy_dn n1 ?_,n2⟩
 rw [h3]
 exact Prod.ext rfl h1
theorem rch_md {j : Nat} {s s' : Sg} (nv : Nv j s) (h : Rch s) {p : ByteArray} {t : Int} (hsp : (drSpot DgP s p).2.2 = 0) (h0 : dE s (drSpot DgP s p).2.1.ino (parN p) = 0) (ht : 0 < t) (hnd : ¬ dD s t) (md : Md s s' (drSpot DgP s p).2.1.ino (parN p) t) : Rch s':=by
 obtain ⟨w1,n2⟩:=spot_wy hsp
 have hd:=(spot_at hsp).2.2.1
 generalize (drSpot DgP s p).2.1.ino = io at *
 have hE : ∀ a b,dE s a b ≠ 0 → dD s (dE s a b) → dE s a b ≠ t → dE s' a b = dE s a b:=fun a b hn _ _ => by
  rw [md.e,if_neg (fun q => hn (by rw [q.1,q.2]; exact h0))]
 have hF : ∀ v,dD s v → v ≠ t → dD s' v:=fun v hv hne => dD_to (md.f v hne) hv
 have hrt : dD s' 1:=hF 1 nv.rt (fun e => hnd (e ▸ nv.rt))
 intro u u0 u1 hu
 by_cases hq : u = t
 ·refine ⟨parL p ++ [parN p],wy_snoc.2 ⟨io,wyN_keep hE hF (wyN_file hnd w1 hd) hd (fun _ => hrt),hF io hd (fun e => hnd (e ▸ hd)),n2,by rw [md.e,if_pos ⟨rfl,rfl⟩,hq],by omega⟩⟩
 ·have hs : dD s u:=dD_of (md.f u hq) hu
  obtain ⟨ns,w⟩:=h u u0 u1 hs
  exact ⟨ns,wyN_keep hE hF (wyN_file hnd w hs) hs (fun _ => hrt)⟩
theorem rch_away {j : Nat} {s s' : Sg} {x : Spt} (nv : Nv j s) (h : Rch s) (aw : Aw s s' x) : Rch s':=by
 obtain ⟨k,m,l,z,hf,hk,hg⟩:=aw.g
 have hr1:=nv.r1 x.ino x.name
 rw [aw.e0] at hr1
 have hE : ∀ a b,dE s a b ≠ 0 → dD s (dE s a b) → dE s a b ≠ x.to → dE s' a b = dE s a b:=fun a b hn _ hne => by
  rw [aw.e,if_neg (fun q => hne (by rw [q.1,q.2]; exact aw.e0))]
 have hF : ∀ v,dD s v → v ≠ x.to → dD s' v:=fun v hv hne => dD_to (aw.f v hne) hv
 have hrt : dD s' 1:=hF 1 nv.rt (Ne.symm hr1)
 intro u u0 u1 hu
 have hq : u ≠ x.to:=fun e => by
  subst e
  rcases hg with ⟨_,h2⟩ | ⟨_,h2,h3⟩
  ·exact h2 hu.1
  ·exact hu.2 (by rw [h3]; exact h2)
 have hs : dD s u:=dD_of (aw.f u hq) hu
 obtain ⟨ns,w⟩:=h u u0 u1 hs
 by_cases hk1 : k = 1
 ·have hnd : ¬ dD s x.to:=fun q => q.2 (by rw [hf]; exact hk1)
  exact ⟨ns,wyN_keep hE hF (wyN_file hnd w hs) hs (fun _ => hrt)⟩
 ·exact ⟨ns,wyN_keep hE hF (wyN_empty (hk hk1) w hq) hs (fun _ => hrt)⟩
theorem rn_all {D : Sgd} {s : D.G.S} {old p : ByteArray} (h : (drRename D s old p).2 = 0) : ∃ s1 x b s2 y s3,drTaken D s old = (s1,x,0) ∧ (b = s1 ∨ b = (drKind D s1 x.to 2 195).1) ∧ (drBel old p = true → (drKind D s1 x.to 2 195).2 = 0) ∧ drFree D b p = (s2,y,0) ∧ drAway D s2 x = (s3,0) ∧ (drSet D s3 y x.to).2 = 0 ∧ (drRename D s old p).1 = (drSet D s3 y x.to).1:=by
 unfold drRename at h ⊢
 by_cases h0 : parE old ≠ 0
 ·rw [if_pos h0] at h; exact absurd h h0
 rw [if_neg h0] at h ⊢
 by_cases h0' : parE p ≠ 0
 ·rw [if_pos h0'] at h; exact absurd h h0'
 rw [if_neg h0'] at h ⊢
 obtain ⟨⟨s1,x,e1⟩,hf⟩ : ∃ r,drTaken D s old = r:=⟨_,rfl⟩
 rw [hf] at h ⊢
 unfold drRen1 at h ⊢
 dsimp only at h ⊢
 by_cases h1 : e1 ≠ 0
 ·rw [if_pos h1] at h; exact absurd h h1
 rw [if_neg h1] at h ⊢
 obtain ⟨⟨b,e2⟩,hb⟩ : ∃ r,(if drBel old p = true then drKind D s1 x.to 2 195 else (s1,0)) = r:=⟨_,rfl⟩
 have hbb : (b = s1 ∨ b = (drKind D s1 x.to 2 195).1) ∧ (drBel old p = true → (drKind D s1 x.to 2 195).2 = e2):=by
  by_cases hq : drBel old p = true
  ·rw [if_pos hq] at hb; exact ⟨.inr (by rw [hb]),fun _ => by rw [hb]⟩
  ·rw [if_neg hq] at hb; simp only [Prod.mk.injEq] at hb; exact ⟨.inl hb.1.symm,fun q => absurd q hq⟩
 rw [hb] at h ⊢
 unfold drRen2 at h ⊢
 dsimp only at h ⊢
 by_cases h2 : e2 ≠ 0
 ·rw [if_pos h2] at h; exact absurd h h2
 rw [if_neg h2] at h ⊢
 obtain ⟨⟨s2,y,e3⟩,hg⟩ : ∃ r,drFree D b p = r:=⟨_,rfl⟩
 rw [hg] at h ⊢
 unfold drRen3 at h ⊢
 dsimp only at h ⊢
 by_cases h3 : e3 ≠ 0
 ·rw [if_pos h3] at h; exact absurd h h3
 rw [if_neg h3] at h ⊢
 obtain ⟨⟨s3,e4⟩,hl⟩ : ∃ r,drAway D s2 x = r:=⟨_,rfl⟩
 rw [hl] at h ⊢
 unfold drRen4 at h ⊢
 dsimp only at h ⊢
 by_cases h4 : e4 ≠ 0
 ·rw [if_pos h4] at h; exact absurd h h4
 rw [if_neg h4] at h ⊢
 obtain rfl:=Decidable.not_not.1 h1
 obtain rfl:=Decidable.not_not.1 h2
 obtain rfl:=Decidable.not_not.1 h3
 obtain rfl:=Decidable.not_not.1 h4
 exact ⟨s1,x,b,s2,y,s3,rfl,hbb.1,hbb.2,hg,hl,h,rfl⟩
theorem same_pre : ∀ (a b : List ByteArray),sameP a (a ++ b) = true
 | [],b => rfl
 | x :: a,b => by
  show ((x.toList == x.toList) && sameP a (a ++ b)) = true
  rw [same_pre a b,beq_self_eq_true]
  rfl
theorem under_pre (a c d : List ByteArray) (h : d ≠ []) : underB a (a ++ c ++ d) = true:=by
 have hl : 0 < d.length:=List.length_pos_iff.2 h
 unfold underB
 rw [Bool.and_eq_true,decide_eq_true_eq]
 refine ⟨by simp; omega,?_⟩
 rw [List.append_assoc]
 exact same_pre a _
theorem rch_rename {j : Nat} {s : Sg} (nv : Nv j s) (rk : Rk s) (h : Rch s) {old p : ByteArray} (he : (drRename DgP s old p).2 = 0) : Rch (drRename DgP s old p).1:=by
 obtain ⟨s1,x,b,s2,y,s3,ht,hb,hbe,hf,hg,hs,e⟩:=rn_all (D:=DgP) he
 rw [e]
 have hv:=drTaken_vs s old
 have ho:=drTaken_ok (s:=s) nv.iv.d (p:=old) (by rw [ht])
 obtain ⟨o1,o2⟩:=drTaken_cases (D:=DgP) (s:=s) (p:=old) (by rw [ht])
 obtain ⟨oz,_,od,_,o4,o5⟩:=spot_at (s:=s) o1
 obtain ⟨wo,no⟩:=spot_wy (s:=s) o1
 have eo : (drSpot DgP s old).2.1 = x:=by rw [← o2,ht]
 rw [eo] at od o4 o5 wo
 rw [ht] at hv ho
 dsimp only at hv ho
 obtain ⟨hx,hto,hne⟩:=ho
 have hvb : Vs s b:=by
  rcases hb with rfl | rfl
  ·exact hv
  ·exact ⟨hv.l,hv.d,hv.n⟩
 have hv2:=drFree_vs b p
 have hy:=drFree_ok (s:=b) (by rw [hvb.d]; exact nv.iv.d) (p:=p) (by rw [hf])
 obtain ⟨g1,g2,g3⟩:=spot_free (s:=b) (p:=p) (by rw [hf])
 obtain ⟨gz,_,gd,_,g4,g5⟩:=spot_at g1
 obtain ⟨wp,np⟩:=spot_wy g1
 rw [hf] at g3 hv2 hy
 have ey : (drSpot DgP b p).2.1 = y:=by rw [← g3]
 rw [ey] at g2 g4 g5 gd wp
 dsimp only at hv2 hy
 have wp:=wy_vs hvb.symm wp
 have gd : dD s y.ino:=dD_of (hvb.f _) gd
 have hvv:=hvb.trans hv2
 have rk2:=rk.vs hvv
 have hg2 : (drWrite DgP s2 x.ino x.name (goneC (entP x.ino x.name))).2 = 0:=congrArg Prod.snd hg
 have hg1 : (drWrite DgP s2 x.ino x.name (goneC (entP x.ino x.name))).1 = s3:=congrArg Prod.fst hg
 obtain ⟨a1,a2,a3,a4⟩:=ent_gone rk2.iv (goneE_ok hx.i0 hx.i1 hx.n8) hg2
 rw [hg1] at a1 a2 a3 a4
 change Sg at s3
 have hc : CgOk (toC y.ino y.name x.to):=toC_ok hy.i0 hy.i1 hy.n8 hx.t0 hx.t1
 obtain ⟨w1,w2,w3,w4⟩:=ent_set a3 hc hs
 obtain ⟨s4,hs4⟩ : ∃ s4 : Sg,(drWrite DgP s3 y.ino y.name (toC y.ino y.name x.to)).1 = s4:=⟨_,rfl⟩
 rw [hs4] at w1 w2
 show Rch (drWrite DgP s3 y.ino y.name (toC y.ino y.name x.to)).1
 rw [hs4]
 have hE4 : ∀ a b,dE s4 a b = if a = y.ino ∧ b = y.name then x.to else if a = x.ino ∧ b = x.name then 0 else dE s a b:=fun a b => by rw [w1,a1,hvv.e]
 have hF4 : ∀ u,fdR s4 u = fdR s u:=fun u => by rw [w2,a2,hvv.f]
 have hy0 : dE s y.ino y.name = 0:=by
  have : y.to = dE b y.ino (parN p):=g5
  rw [hvb.e,← g4] at this
  rw [← this]; exact g2
 have hE : ∀ a b,dE s a b ≠ 0 → dD s (dE s a b) → dE s a b ≠ x.to → dE s4 a b = dE s a b:=fun a b hn _ hq => by
  rw [hE4,if_neg (fun q => hn (by rw [q.1,q.2]; exact hy0)),if_neg (fun q => hq (by rw [q.1,q.2]; exact hto.symm))]
 have hF : ∀ v,dD s v → v ≠ x.to → dD s4 v:=fun v hv _ => dD_to (hF4 v) hv
 have hrt : dD s4 1:=dD_to (hF4 1) nv.rt
 have wo2 : wyT s (pathL old) 1 x.to:=by
  rw [(par_sp oz).2]
  exact wy_snoc.2 ⟨x.ino,wo,od,no,by rw [← o4]; exact hto.symm,hne⟩
 intro u u0 u1 hu
 have hsu : dD s u:=dD_of (hF4 u) hu
 obtain ⟨ns,w⟩:=h u u0 u1 hsu
 rcases wy_split x.to w with h1 | ⟨n1,n2,rfl,h2,_,h4⟩
 ·exact ⟨ns,wyN_keep hE hF h1 hsu (fun _ => hrt)⟩
 ·have hdt : dD s x.to:=by
   cases n2 with
   | nil => have e : x.to = u:=h4; rw [e]; exact hsu
   | cons y n2 => exact h4.1
  have hbel : ¬ drBel old p = true:=fun q => by
   obtain ⟨k1,k2⟩:=drKind_0 (s:=s1) (by decide) (hbe q)
   rw [hv.f] at k1 k2
   rcases nv.kd k1 with e | e
   ·exact hdt.2 e
   ·exact k2 e
  rcases wy_split x.to wp with p1 | ⟨q1,q2,hq,p2,_,_⟩
  ·have wy1 : wyT s4 (parL p ++ [parN p]) 1 x.to:=wy_snoc.2 ⟨y.ino,wyN_keep hE hF p1 gd (fun _ => hrt),dD_to (hF4 _) gd,np,by rw [hE4,if_pos ⟨rfl,g4.symm⟩],hne⟩
   exact ⟨(parL p ++ [parN p]) ++ n2,wy_app.2 ⟨x.to,wy1,wyN_keep hE hF h4 hsu (fun _ => dD_to (hF4 _) hdt)⟩⟩
  ·exfalso
   apply hbel
   have e1:=wy_one nv _ rfl p2 wo2 hdt
   unfold drBel
   rw [(par_sp gz).2,hq,← e1]
   exact under_pre q1 q2 [parN p] (by simp)
def Nr (i : Nat) (s : Sg) : Prop:=Nt i s ∧ Rch s
theorem rch_0 : Rch (sg0 rootL 64 2):=fun u h0 h1 hu => by
 by_cases h2 : u = 1
 ·exact ⟨[],h2.symm⟩
 ·exfalso
  have q:=List.all_eq_true.1 root_alone u.toNat (List.mem_range.2 (by omega))
  rw [show ((u.toNat : Nat) : Int) = u by omega,decide_eq_false (show ¬ u.toNat < 2 by omega),Bool.false_or,decide_eq_true_eq] at q
  exact q hu.1
theorem nr_sc : Sc Nr where
 z:=⟨nt_sc.z,rch_0⟩
 s:=fun {i s} o hi j h ho he r => by
  obtain ⟨nt,rc⟩:=h
  obtain ⟨nv,hl,es,tv,hle⟩:=nt
  have rk : Rk s:=⟨hl,j,nv.iv⟩
  refine ⟨nt_sc.s o hi j ⟨nv,hl,es,tv,hle⟩ ho he r,?_⟩
  refine doneR_ind (M:=fun r => r.2 = 0 → Rch r.1) (fun he => ?_) (fun he => ?_) (fun he => ?_) (fun he => ?_) (fun he => rch_rename nv rk rc he) (fun _ => rc) he
  ·obtain ⟨h1,h2,h3,md,hf,hpu,hok⟩:=make_md nv rk (by omega) he
   have m0:=nv.n0
   by_cases hd : dD s s.n
   ·exfalso
    have m1:=nv.n1
    obtain ⟨ns,w⟩:=rc s.n (by omega) (by omega) hd
    rcases List.eq_nil_or_concat ns with rfl | ⟨a,x,rfl⟩
    ·have e : (1 : Int) = s.n:=w
     omega
    ·rw [List.concat_eq_append] at w
     obtain ⟨v,_,_,_,q,_⟩:=wy_snoc.1 w
     have:=nv.lt v x
     omega
   ·exact rch_md nv rc h2 h3 (by omega) hd md
  ·obtain ⟨ino,m,l,z,h1,h2,h3,hf,hl1,hl2,hsp,h0,md,hf1⟩:=link_md nv rk (by omega) he
   exact rch_md nv rc hsp h0 (by omega) (fun q => q.2 (by rw [hf])) md
  ·obtain ⟨x,aw⟩:=aw_unlink nv rk (by omega) he
   exact rch_away nv rc aw
  ·obtain ⟨x,aw⟩:=aw_rmdir nv rk (by omega) he
   exact rch_away nv rc aw
 b:=fun {i s t} o hi j h hl hd hn => by
  obtain ⟨nt,rc⟩:=h
  refine ⟨nt_sc.b o hi j nt hl hd hn,fun u h0 h1 hu => ?_⟩
  have he : ∀ k x,dE t k x = dE s k x:=fun k x => by unfold dE; rw [hl,hd]
  have hf : ∀ u,fdR t u = fdR s u:=fun u => fd_same hl hd u
  obtain ⟨ns,w⟩:=rc u h0 h1 (dD_of (hf u) hu)
  refine ⟨ns,?_⟩
  have key : ∀ {ns : List ByteArray} {a c : Int},wyT s ns a c → wyT t ns a c:=by
   intro ns
   induction ns with
   | nil => intro a c w; exact w
   | cons x ns ih => intro a c w; exact ⟨dD_to (hf a) w.1,w.2.1,by rw [he]; exact w.2.2.1,by rw [he]; exact ih w.2.2.2⟩
  exact key w
theorem seg_one : (nmS ((rootL.drop (fdN rootL (spF 1 2))).takeWhile fun p => ltS p.1 (spT 1 2))).isEmpty = true:=by kernel_rfl
theorem names_eq {s : Sg} (hl : s.l = rootL) {n : Int} (h0 : 1 ≤ n) (h1 : n < 100) : namesV s.l s.d n = setN (kept n s.d.L):=by
 have hs : nmS ((rootL.drop (fdN rootL (spF n 2))).takeWhile fun p => ltS p.1 (spT n 2)) = []:=by
  by_cases h2 : n = 1
  ·subst h2; exact List.isEmpty_iff.1 seg_one
  ·have q:=List.all_eq_true.1 seg_none n.toNat (List.mem_range.2 (by omega))
   rw [show ((n.toNat : Nat) : Int) = n by omega,decide_eq_false (show ¬ n.toNat < 2 by omega),Bool.false_or] at q
   exact List.isEmpty_iff.1 q
 unfold namesV
 rw [hl,hs]
 rfl
theorem ent_of {s : Sg} (hl : s.l = rootL) (hd : DlOk s.d) (hc : CksOk s.d) {n : Int} {c : Cg} (hm : c ∈ kept n s.d.L) (hg : c.gone = false) : nameOk c.pl.name = true ∧ entP n c.pl.name = c.pl ∧ dE s n c.pl.name ≠ 0:=by
 obtain ⟨hm1,hm2⟩:=List.mem_filter.1 hm
 unfold keepE at hm2
 simp only [Bool.and_eq_true,decide_eq_true_eq] at hm2
 obtain ⟨e1,e2⟩:=hm2
 have hk:=hc c hm1
 unfold ckOk at hk
 by_cases hpl : plOk c.pl = true
 case neg => rw [if_neg hpl] at hk; cases hk
 rw [if_pos hpl,if_neg (by rw [hg]; decide),if_neg (by omega),if_pos e2] at hk
 unfold entOk at hk
 simp only [Bool.and_eq_true] at hk
 obtain ⟨e3,e4⟩:=hk
 have e5:=cgEq_iff.1 e3
 have hfr : c.fresh = false:=by rw [e5]; rfl
 have hpe : entP n c.pl.name = c.pl ∧ nameOk c.pl.name = true:=by
  rcases (plOk_cases hpl).2 with ⟨q,_,_⟩ | ⟨_,nm,q⟩ | ⟨q,_,_⟩
  ·omega
  ·obtain ⟨⟨p1,p2,p3,p4⟩⟩:=c
   dsimp only at e1 e2 q nm ⊢
   subst e1 e2 q
   exact ⟨rfl,nm⟩
  ·omega
 refine ⟨hpe.2,hpe.1,fun hx2 => ?_⟩
 unfold dE vgR at hx2
 rw [hpe.1,hl] at hx2
 have hgl : getL s.d.L c.pl = some c:=(getL_some hd.L.rise).2 ⟨hm1,rfl⟩
 have hw : wasX s.d c.pl = c:=by unfold wasX; rw [hgl]; rfl
 have hi : isX s.d c.pl = true:=by unfold isX; rw [hgl]; rfl
 rw [hi,if_pos rfl,hw] at hx2
 unfold chL chR at hx2
 rw [if_neg (by rw [hg]; decide),if_neg (by rw [hfr]; decide),if_pos e2] at hx2
 have hx3 : c.to = 0:=hx2
 rw [hx3] at e4
 exact absurd e4 (by decide)
theorem nm_ok {s : Sg} (hl : s.l = rootL) (hd : DlOk s.d) (hc : CksOk s.d) {n : Int} (h0 : 1 ≤ n) (h1 : n < 100) {x : ByteArray} (h : x ∈ namesV s.l s.d n) : nameOk x = true ∧ dE s n x ≠ 0:=by
 rw [names_eq hl h0 h1] at h
 unfold setN at h
 obtain ⟨c,hm,rfl⟩:=List.mem_map.1 h
 obtain ⟨hm,hg⟩:=List.mem_filter.1 hm
 obtain ⟨q1,_,q3⟩:=ent_of hl hd hc hm (by simpa using hg)
 exact ⟨q1,q3⟩
theorem nm_has {s : Sg} (hl : s.l = rootL) (hd : DlOk s.d) {n : Int} (h0 : 1 ≤ n) (h1 : n < 100) {x : ByteArray} (h : dE s n x ≠ 0) : x ∈ namesV s.l s.d n:=by
 rw [names_eq hl h0 h1]
 unfold dE vgR at h
 rw [hl] at h
 cases hg : getL s.d.L (entP n x) with
 | none =>
  have hi : isX s.d (entP n x) = false:=by unfold isX; rw [hg]; rfl
  rw [hi] at h
  exact absurd (base_ent n x) h
 | some c =>
  obtain ⟨hm,hpl⟩:=(getL_some hd.L.rise).1 hg
  have hi : isX s.d (entP n x) = true:=by unfold isX; rw [hg]; rfl
  have hw : wasX s.d (entP n x) = c:=by unfold wasX; rw [hg]; rfl
  rw [hi,if_pos rfl,hw] at h
  unfold chL chR at h
  cases hgo : c.gone with
  | true => rw [hgo,if_pos rfl] at h; exact absurd rfl h
  | false =>
   have hk : c ∈ kept n s.d.L:=by
    refine List.mem_filter.2 ⟨hm,?_⟩
    unfold keepE
    rw [hpl]
    simp [entP]
   unfold setN
   exact List.mem_map.2 ⟨c,List.mem_filter.2 ⟨hk,by rw [hgo]; rfl⟩,by rw [hpl]; rfl⟩
theorem nm_nodup {s : Sg} (hl : s.l = rootL) (hd : DlOk s.d) (hc : CksOk s.d) {n : Int} (h0 : 1 ≤ n) (h1 : n < 100) : (namesV s.l s.d n).Nodup:=by
 rw [names_eq hl h0 h1]
 unfold setN List.Nodup
 rw [List.pairwise_map]
 have hp : ((kept n s.d.L).filter fun c => !c.gone).Pairwise fun x y => cmpP x.pl y.pl = -1:=(hd.L.rise.filter _).filter _
 refine List.Pairwise.imp_of_mem ?_ hp
 intro a b ha hb hab e
 obtain ⟨ha1,ha2⟩:=List.mem_filter.1 ha
 obtain ⟨hb1,hb2⟩:=List.mem_filter.1 hb
 have qa:=(ent_of hl hd hc ha1 (by simpa using ha2)).2.1
 have qb:=(ent_of hl hd hc hb1 (by simpa using hb2)).2.1
 rw [← qa,← qb,e,cmpP_ord.same] at hab
 exact absurd hab (by decide)
def pthS (ns : List ByteArray) : ByteArray:=if ns = [] then ⟨#[47]⟩ else gluS ns
theorem pth_join {ns : List ByteArray} (h : ns.all nameOk = true) (hn : ns.length ≤ 6) : pathE (pthS ns) = 0 ∧ pathL (pthS ns) = ns:=by
 have hj : joinE ns = 0:=by unfold joinE; rw [if_pos hn,if_pos h]
 have e : joinS ns = pthS ns:=by unfold joinS; rw [if_pos hj]; rfl
 rw [← e]
 exact split_join hj
theorem glu_deep {ns : List ByteArray} (h : ns.all nameOk = true) (hn : 6 < ns.length) : pathE (gluS ns) = 160:=by
 have hall:=List.all_eq_true.1 h
 have he : ns ≠ []:=fun e => by rw [e] at hn; exact absurd hn (by decide)
 have hcut : pathN (gluS ns) = ns:=by
  unfold pathN
  have hgd : (gluS ns).data.toList = glue (ns.map (fun n => n.data.toList)):=rfl
  rw [hgd,cut_glue (by simpa using he) (fun n hn => by
   obtain ⟨m,hm,rfl⟩:=List.mem_map.1 hn
   exact nameOk_no47 (hall m hm)),map_to]
 have hlen:=glue_len (l:=ns.map (fun n => n.data.toList)) (fun n hn => by
  obtain ⟨m,hm,rfl⟩:=List.mem_map.1 hn
  exact nmOk_size (hall m hm))
 rw [List.length_map] at hlen
 have h47 : (gluS ns).data.toList ≠ [47]:=fun e => by
  have:=congrArg List.length e
  have hgd : (gluS ns).data.toList = glue (ns.map (fun n => n.data.toList)):=rfl
  rw [hgd] at this
  simp at this
  omega
 unfold pathE
 rw [if_neg h47]
 split
 ·rw [if_neg (by rw [hcut]; omega)]
 ·rfl
theorem gluS_snoc (ns : List ByteArray) (x : ByteArray) : gluS (ns ++ [x]) = gluS ns ++ ⟨#[47]⟩ ++ x:=by
 have h:=gluS_next (ns:=ns ++ [x]) (i:=ns.length) (x:=x) (by simp)
 rw [List.take_of_length_le (by simp),List.take_left'] at h
 ·rw [h,ByteArray.append_assoc]
 ·rfl
theorem pth_snoc (ns : List ByteArray) (x : ByteArray) : pthS (ns ++ [x]) = gluS (ns ++ [x]):=by
 unfold pthS
 rw [if_neg (by simp)]
theorem wy_ok {s : Sg} : ∀ {ns : List ByteArray} {t u : Int},wyT s ns t u → ns.all nameOk = true
 | [],t,u,h => rfl
 | x :: ns,t,u,⟨_,h2,_,h4⟩ => by rw [List.all_cons,h2,wy_ok h4]; rfl
theorem dn_wy {s : Sg} (hl : s.l = rootL) (hd : DlOk s.d) : ∀ {ns : List ByteArray} {s' : Sg} {t u : Int},Vs s s' → t < 4294967296 → wyT s ns t u → (dnD ns s' t).2 = (u,0)
 | [],s',t,u,hv,ht,h => by have h : t = u:=h; rw [h]; rfl
 | x :: ns,s',t,u,hv,ht,⟨h1,h2,h3,h4⟩ => by
  have hk:=(look_kept ((Kept.refl hl hd).vs (Vs.refl s) hv) ht h1 h2).1
  rw [hv.e] at hk
  have e2 : (dnS s' t x).2 = (dE s t x,0):=by
   rw [dnS_eq,hk,if_neg (fun q => h3 q.2)]
   exact hk
  have hb:=(dE_bd hd t x).2
  rw [dnD_eq,e2,if_neg (by simp)]
  exact dn_wy hl hd (hv.trans step_st) (by omega) h4
theorem find_p {s s' : Sg} (hl : s.l = rootL) (hd : DlOk s.d) (hv : Vs s s') {ns : List ByteArray} {u : Int} (h : wyT s ns 1 u) (hn : ns.length ≤ 6) : (drFind DgP s' (pthS ns)).2 = (u,0):=by
 obtain ⟨h1,h2⟩:=pth_join (wy_ok h) hn
 have e : drFind DgP s' (pthS ns) = dnD (pathL (pthS ns)) s' 1:=if_neg (by simpa using h1)
 rw [e,h2]
 exact dn_wy hl hd hv (by decide) h
theorem find_7 {s' : Sg} {ns : List ByteArray} (h : ns.all nameOk = true) (hn : 6 < ns.length) : drFind DgP s' (gluS ns) = (s',0,160):=by
 have h1:=glu_deep h hn
 have e : drFind DgP s' (gluS ns) = (s',0,pathE (gluS ns)):=if_pos (by rw [h1]; decide)
 rw [e,h1]
theorem list_p {s s' : Sg} (hl : s.l = rootL) (hd : DlOk s.d) (hv : Vs s s') {ns : List ByteArray} {u : Int} (h : wyT s ns 1 u) (hu : dD s u) (hn : ns.length ≤ 6) : (drList DgP s' (pthS ns)).2 = (namesV s.l s.d u,0) ∧ Vs s (drList DgP s' (pthS ns)).1:=by
 have h1:=find_p hl hd hv h hn
 have hv2:=drFind_vs s' (pthS ns)
 have e : drList DgP s' (pthS ns) = drList1 DgP (drFind DgP s' (pthS ns)):=rfl
 rw [e]
 generalize drFind DgP s' (pthS ns) = F at *
 obtain ⟨f1,f2,f3⟩:=F
 change Sg at f1
 dsimp only at h1 hv2
 simp only [Prod.mk.injEq] at h1
 obtain ⟨rfl,rfl⟩:=h1
 have hd1 : drList1 DgP (f1,f2,0) = if (0 : Int) ≠ 0 then (f1,[],0) else if (drKind DgP f1 f2 1 192).2 ≠ 0 then (f1,[],(drKind DgP f1 f2 1 192).2) else ({ f1 with R:=addL f1.R (tcA f2) },namesV f1.l f1.d f2,0):=rfl
 have hv3:=hv.trans hv2
 have hk : (drKind DgP f1 f2 1 192).2 = 0:=by
  show dnK f1 f2 = 0
  rw [dnK_eq,hv3.f,if_neg (by simpa using hu.1),if_neg hu.2]
 rw [hd1,if_neg (by decide),if_neg (by rw [hk]; decide)]
 exact ⟨by rw [hv3.l,hv3.d],hv3.l,hv3.d,hv3.n⟩
theorem drList_kp {s0 s : Sg} {n : Nat} (h : DgP.Kp s0 s n) (p : ByteArray) : DgP.Kp s0 (drList DgP s p).1 (n + 7):=by
 have o:=DgP_ok
 have h1:=drFind_kp o h p
 have e : drList DgP s p = drList1 DgP (drFind DgP s p):=rfl
 rw [e]
 unfold drList1
 split
 ·exact o.kmono h1 (by omega)
 ·have h2:=drKind_kp o h1 (drFind DgP s p).2.1 1 192
  unfold drList2
  split
  ·exact o.kmono h2 (by omega)
  ·exact ⟨o.bN h2.k _,o.jN h2.j _⟩
def trE (s : Sg) : Nat → List ByteArray → Int → List (List ByteArray × En)
 | 0,_,_ => []
 | f + 1,ns,u => (namesV s.l s.d u).flatMap fun x => (ns ++ [x],⟨u,x,dE s u x⟩) :: (if (fdR s (dE s u x)).1.k ≠ 1 then trE s f (ns ++ [x]) (dE s u x) else [])
def trF (s : Sg) (f : Nat) (ns : List ByteArray) (u : Int) (x : ByteArray) : List (List ByteArray × En):=(ns ++ [x],⟨u,x,dE s u x⟩) :: (if (fdR s (dE s u x)).1.k ≠ 1 then trE s f (ns ++ [x]) (dE s u x) else [])
theorem trE_s (s : Sg) (f : Nat) (ns : List ByteArray) (u : Int) : trE s (f + 1) ns u = (namesV s.l s.d u).flatMap (trF s f ns u):=rfl
structure Tz (i : Nat) (s : Sg) (es : List En) : Prop where
 nv : Nv i s
 l : s.l = rootL
 tv : Tv s es
 rc : Rch s
 hi : i ≤ 40
 le : es.length ≤ i
theorem Tz.wb {i : Nat} {s : Sg} {es : List En} (h : Tz i s es) {ns : List ByteArray} {u : Int} (w : wyT s ns 1 u) : 1 ≤ u ∧ u < 100:=by
 have m1:=h.nv.n1
 have m2:=h.hi
 rcases List.eq_nil_or_concat ns with rfl | ⟨a,x,rfl⟩
 ·have e : (1 : Int) = u:=w
  omega
 ·rw [List.concat_eq_append] at w
  obtain ⟨v,_,_,_,q,q0⟩:=wy_snoc.1 w
  have h1:=(dE_bd h.nv.iv.d v x).1
  have h2:=h.nv.lt v x
  omega
theorem Tz.nm {i : Nat} {s : Sg} {es : List En} (h : Tz i s es) {ns : List ByteArray} {u : Int} (w : wyT s ns 1 u) (hu : dD s u) {x : ByteArray} (hx : x ∈ namesV s.l s.d u) : nameOk x = true ∧ dE s u x ≠ 0 ∧ wyT s (ns ++ [x]) 1 (dE s u x) ∧ (fdR s (dE s u x)).2 = 0 ∧ 0 ≤ dE s u x ∧ dE s u x ≤ 4294967295:=by
 obtain ⟨b0,b1⟩:=h.wb w
 obtain ⟨q1,q2⟩:=nm_ok h.l h.nv.iv.d h.nv.iv.c b0 b1 hx
 have hb:=dE_bd h.nv.iv.d u x
 exact ⟨q1,q2,wy_snoc.2 ⟨u,w,hu,q1,rfl,q2⟩,h.tv.fd u x q2,hb.1,hb.2⟩
theorem Tz.way {i : Nat} {s : Sg} {es : List En} (h : Tz i s es) : ∀ (f : Nat) {ns : List ByteArray} {u : Int},wyT s ns 1 u → dD s u → ∀ q ∈ trE s f ns u,∃ ms,∃ r,ms = ns ++ r ∧ q.1 = ms ++ [q.2.x] ∧ wyT s ms 1 q.2.k ∧ dD s q.2.k ∧ nameOk q.2.x = true ∧ dE s q.2.k q.2.x = q.2.t ∧ q.2.t ≠ 0 ∧ q.1.length ≤ ns.length + f
 | 0,ns,u,w,hu,q,hq => by unfold trE at hq; exact absurd hq List.not_mem_nil
 | f + 1,ns,u,w,hu,q,hq => by
  rw [trE_s] at hq
  obtain ⟨x,hx,hq⟩:=List.mem_flatMap.1 hq
  obtain ⟨q1,q2,q3,q4,_⟩:=h.nm w hu hx
  unfold trF at hq
  rcases List.mem_cons.1 hq with rfl | hq
  ·exact ⟨ns,[],by simp,rfl,w,hu,q1,rfl,q2,by simp only [List.length_append,List.length_cons,List.length_nil]; omega⟩
  ·split at hq
   ·obtain ⟨ms,r,e1,e2⟩:=h.way f q3 ⟨q4,by assumption⟩ q hq
    refine ⟨ms,x :: r,by rw [e1]; simp,e2.1,e2.2.1,e2.2.2.1,e2.2.2.2.1,e2.2.2.2.2.1,e2.2.2.2.2.2.1,?_⟩
    have:=e2.2.2.2.2.2.2
    simp at this
    omega
   ·exact absurd hq List.not_mem_nil
theorem Tz.paths {i : Nat} {s : Sg} {es : List En} (h : Tz i s es) : ∀ (f : Nat) {ns : List ByteArray} {u : Int},wyT s ns 1 u → dD s u → (trE s f ns u).Pairwise fun a b => a.1 ≠ b.1
 | 0,ns,u,w,hu => by unfold trE; exact List.Pairwise.nil
 | f + 1,ns,u,w,hu => by
  obtain ⟨b0,b1⟩:=h.wb w
  have hp : ∀ x ∈ namesV s.l s.d u,∀ a ∈ trF s f ns u x,∃ r,a.1 = ns ++ x :: r:=fun x hx a ha => by
   obtain ⟨q1,q2,q3,q4,_⟩:=h.nm w hu hx
   unfold trF at ha
   rcases List.mem_cons.1 ha with rfl | ha
   ·exact ⟨[],rfl⟩
   ·split at ha
    ·obtain ⟨ms,r,e1,e2,_⟩:=h.way f q3 ⟨q4,by assumption⟩ a ha
     exact ⟨r ++ [a.2.x],by rw [e2,e1]; simp⟩
    ·exact absurd ha List.not_mem_nil
  rw [trE_s,List.pairwise_flatMap]
  refine ⟨fun x hx => ?_,?_⟩
  ·obtain ⟨q1,q2,q3,q4,_⟩:=h.nm w hu hx
   unfold trF
   refine List.pairwise_cons.2 ⟨fun a ha => ?_,?_⟩
   ·split at ha
    ·obtain ⟨ms,r,e1,e2,_⟩:=h.way f q3 ⟨q4,by assumption⟩ a ha
     intro e
     have:=congrArg List.length e
     rw [e2,e1] at this
     simp only [List.length_append,List.length_cons,List.length_nil] at this
     omega
    ·exact absurd ha List.not_mem_nil
   ·split
    ·exact h.paths f q3 ⟨q4,by assumption⟩
    ·exact List.Pairwise.nil
  ·refine List.Pairwise.imp_of_mem ?_ (nm_nodup h.l h.nv.iv.d h.nv.iv.c b0 b1)
   intro x y hx hy hne a ha b hb e
   obtain ⟨r,e1⟩:=hp x hx a ha
   obtain ⟨r',e2⟩:=hp y hy b hb
   rw [e1,e2] at e
   have:=List.append_cancel_left e
   simp only [List.cons.injEq] at this
   exact hne this.1
theorem Tz.ents {i : Nat} {s : Sg} {es : List En} (h : Tz i s es) (f : Nat) : ((trE s f [] 1).map Prod.snd).Nodup ∧ ∀ e ∈ (trE s f [] 1).map Prod.snd,e ∈ es:=by
 have hw : wyT s [] 1 1:=rfl
 refine ⟨?_,fun e he => ?_⟩
 ·unfold List.Nodup
  rw [List.pairwise_map]
  refine List.Pairwise.imp_of_mem ?_ (h.paths f hw h.nv.rt)
  intro a b ha hb hne e
  obtain ⟨ms,_,_,a2,a3,a4,_⟩:=h.way f hw h.nv.rt a ha
  obtain ⟨ns,_,_,b2,b3,_⟩:=h.way f hw h.nv.rt b hb
  rw [← e] at b2 b3
  have:=wy_one h.nv ms.length rfl a3 b3 a4
  exact hne (by rw [a2,b2,this])
 ·obtain ⟨a,ha,rfl⟩:=List.mem_map.1 he
  obtain ⟨ms,_,_,_,_,_,_,a5,a6,_⟩:=h.way f hw h.nv.rt a ha
  exact (h.tv.e.mem a.2).2 ⟨a6,a5⟩
theorem Tz.len {i : Nat} {s : Sg} {es : List En} (h : Tz i s es) (f : Nat) : (trE s f [] 1).length ≤ 40:=by
 obtain ⟨h1,h2⟩:=h.ents f
 have:=h1.length_le_of_subset (fun e he => h2 e he)
 rw [List.length_map] at this
 have:=h.hi
 have:=h.le
 omega
theorem Tz.all {i : Nat} {s : Sg} {es : List En} (h : Tz i s es) : ∀ (ns : List ByteArray) {f : Nat} {ms : List ByteArray} {t u : Int} {x : ByteArray},ms.length + f = 7 → ms.length ≤ 6 → wyT s ms 1 t → wyT s ns t u → dD s u → dE s u x ≠ 0 → (∀ q ∈ trE s f ms t,q.1.length ≤ 6) → ∃ q ∈ trE s f ms t,q.2 = ⟨u,x,dE s u x⟩
 | [],f,ms,t,u,x,hf,hm,w,wn,hu,hx,hq => by
  have e : t = u:=wn
  subst e
  obtain ⟨g,rfl⟩ : ∃ g,f = g + 1:=⟨f - 1,by omega⟩
  obtain ⟨b0,b1⟩:=h.wb w
  refine ⟨(ms ++ [x],⟨t,x,dE s t x⟩),?_,rfl⟩
  rw [trE_s]
  exact List.mem_flatMap.2 ⟨x,nm_has h.l h.nv.iv.d b0 b1 hx,List.mem_cons_self⟩
 | y :: ns,f,ms,t,u,x,hf,hm,w,⟨w1,w2,w3,w4⟩,hu,hx,hq => by
  obtain ⟨g,rfl⟩ : ∃ g,f = g + 1:=⟨f - 1,by omega⟩
  obtain ⟨b0,b1⟩:=h.wb w
  have hy:=nm_has h.l h.nv.iv.d b0 b1 w3
  have hd : dD s (dE s t y):=by
   cases ns with
   | nil => have e : dE s t y = u:=w4; rw [e]; exact hu
   | cons z ns => exact w4.1
  have hsub : ∀ q,q ∈ trF s g ms t y → q ∈ trE s (g + 1) ms t:=fun q hq => by rw [trE_s]; exact List.mem_flatMap.2 ⟨y,hy,hq⟩
  have hlen:=hq _ (hsub (ms ++ [y],⟨t,y,dE s t y⟩) List.mem_cons_self)
  have hsub2 : ∀ q,q ∈ trE s g (ms ++ [y]) (dE s t y) → q ∈ trE s (g + 1) ms t:=fun q hq => hsub q (by
   unfold trF
   rw [if_pos hd.2]
   exact List.mem_cons_of_mem _ hq)
  obtain ⟨q,q1,q2⟩:=h.all ns (f:=g) (ms:=ms ++ [y]) (by simp; omega) hlen (wy_snoc.2 ⟨t,w,w1,w2,rfl,w3⟩) w4 hu hx (fun q h2 => hq q (hsub2 q h2))
  exact ⟨q,hsub2 q q1,q2⟩
theorem Tz.cnt {i : Nat} {s : Sg} {es : List En} (h : Tz i s es) (hq : ∀ q ∈ trE s 7 [] 1,q.1.length ≤ 6) (t : Int) : (trE s 7 [] 1).countP (fun q => decide (q.2.t = t)) = cnt es t:=by
 obtain ⟨h1,h2⟩:=h.ents 7
 have hp : ((trE s 7 [] 1).map Prod.snd).Perm es:=(List.perm_ext_iff_of_nodup h1 h.tv.e.nd).2 (fun e => ⟨h2 e,fun he => by
  obtain ⟨e0,e1⟩:=(h.tv.e.mem e).1 he
  have hn : dE s e.k e.x ≠ 0:=by rw [e1]; exact e0
  have hd:=h.tv.ex e.k e.x hn
  have hk : 0 < e.k ∧ e.k < 100:=by
   have h3:=h.nv.fr e.k e.x
   have m1:=h.nv.n1
   have m2:=h.hi
   have h4 : 0 < e.k:=by
    unfold dE vgR at hn
    rw [h.l] at hn
    cases hg : getL s.d.L (entP e.k e.x) with
    | none =>
     have hi : isX s.d (entP e.k e.x) = false:=by unfold isX; rw [hg]; rfl
     rw [hi] at hn
     exact absurd (base_ent e.k e.x) hn
    | some c =>
     obtain ⟨hm,hpl⟩:=(getL_some h.nv.iv.d.L.rise).1 hg
     have:=(h.nv.iv.d.L.ok c hm).pl.i0
     rw [hpl] at this
     have h5 : 0 ≤ e.k:=this
     have h6:=dD_ne hd
     omega
   refine ⟨h4,?_⟩
   by_cases hh : s.n ≤ e.k
   ·exact absurd (h3 hh) hn
   ·omega
  obtain ⟨ns,w⟩:=h.rc e.k hk.1 hk.2 hd
  obtain ⟨q,q1,q2⟩:=h.all ns (f:=7) (ms:=[]) rfl (by decide) rfl w hd hn hq
  rw [e1] at q2
  exact List.mem_map.2 ⟨q,q1,q2⟩⟩)
 have e:=hp.countP_eq (p:=fun e : En => decide (e.t = t))
 rw [List.countP_map] at e
 exact e
end Go.Proofs.YtgajjphjkbnaeaaGreat
