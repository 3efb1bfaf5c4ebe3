/- VwCount, InIv, DrI: in one text. -/
import Derived.Test.YtgajjphjkbnaeaaGreatQ31
import Derived.Test.YtgajjphjkbnaeaaGreatQ41
import Derived.Test.YtgajjphjkbnaeaaGreatQ38
import Derived.Test.YtgajjphjkbnaeaaGreatQ39
import Derived.Test.YtgajjphjkbnaeaaGreatQ32
import Derived.Test.YtgajjphjkbnaeaaGreatQ50
namespace Go.Proofs.YtgajjphjkbnaeaaGreat
open Go.RowKit
set_option linter.unusedVariables false
set_option maxHeartbeats 32000000
set_option maxRecDepth 100000
set_option linter.unusedSimpArgs false
open Go.RowKit Go.Shelf
theorem vg_new (l : List (ByteArray × ByteArray)) (m : Int) (q : Pl) : vgR l (newS m) q = (stI l q,stB l q,stE l q):=by
 unfold vgR
 rw [show isX (newS m) q = false from rfl]
 rfl
def FdOk (F : In4 × Int) : Prop:=F.2 = 0 → inoOk F.1.k F.1.m F.1.l F.1.s = true
structure Iv (s : Sg) : Prop where
 d : DlOk s.d
 c : CksOk s.d
 ok : ∀ ino,FdOk (fdR s ino)
theorem Iv.same {s t : Sg} (h : Iv s) (hl : t.l = s.l) (hd : t.d = s.d) : Iv t:=⟨by rw [hd]; exact h.d,by rw [hd]; exact h.c,fun ino => by rw [fd_same hl hd ino]; exact h.ok ino⟩
theorem Iv.put {s : Sg} (h : Iv s) {c : Cg} (hc : CgOk c) (hr : ∀ ino,c.pl = recP ino → FdOk (fdF ino (aft (vgR s.l s.d c.pl) c))) : Iv { s with d:=putS s.d c }:=by
 refine ⟨putS_ok h.d hc,h.c.put c,fun ino => ?_⟩
 by_cases h0 : (putX s.d c).2 = 0
 case neg =>
  have e : putS s.d c = s.d:=by unfold putS; rw [if_neg h0]
  show FdOk (fdR { s with d:=putS s.d c } ino)
  rw [e]
  exact h.ok ino
 show FdOk (fdF ino (vgR s.l (putS s.d c) (recP ino)))
 rw [vg_put s.l h.d h.c hc h0]
 cases hp : plEq c.pl (recP ino) with
 | true => rw [if_pos rfl]; exact hr ino (plEq_iff.1 hp)
 | false => rw [if_neg (by simp)]; exact h.ok ino
theorem fd_gone (ino : Int) (v : It × Bool × Int) (p : Pl) : FdOk (fdF ino (aft v (goneC p))):=fun he => by
 exfalso
 have e : aft v (goneC p) = (it0,false,0):=rfl
 rw [e] at he
 unfold fdF at he
 split at he
 ·cases he
 split at he
 ·rename_i h; exact h rfl
 split at he
 ·rename_i h; cases h
 ·cases he
theorem fd_fresh (ino : Int) (v : It × Bool × Int) (n kind mode : Int) (h : inoOk kind mode 1 0 = true) : FdOk (fdF ino (aft v (freshC (recP n) kind mode 1 0))):=fun he => by
 have e : aft v (freshC (recP n) kind mode 1 0) = (freshI (freshC (recP n) kind mode 1 0),true,0):=rfl
 rw [e] at he ⊢
 unfold fdF at he ⊢
 by_cases hi : ino = 0
 ·rw [if_pos hi] at he; cases he
 rw [if_neg hi,if_neg (by simp),if_pos rfl]
 exact h
theorem fd_fields {ino : Int} {v : It × Bool × Int} {sum : Int} {j : In4} (h : (fdF ino v).2 = 0 → inoOk (mixI (fdF ino v).1 j sum).k (mixI (fdF ino v).1 j sum).m (mixI (fdF ino v).1 j sum).l (mixI (fdF ino v).1 j sum).s = true) :
  FdOk (fdF ino (aft v (fieldsC (recP ino) sum j.k j.m j.l j.s))):=fun he => by
 have hA : refA (fieldsC (recP ino) sum j.k j.m j.l j.s) = false:=rfl
 by_cases hv : v.2.2 = 0
 case neg =>
  rw [aft_err hA hv] at he
  unfold fdF at he
  by_cases hi : ino = 0
  ·rw [if_pos hi] at he; cases he
  ·rw [if_neg hi,if_pos hv] at he; exact absurd he hv
 rw [aft_on hA hv] at he ⊢
 by_cases hi : ino = 0
 ·unfold fdF at he; rw [if_pos hi] at he; cases he
 cases hb : v.2.1 with
 | false =>
  have e : refW v.1 v.2.1 (fieldsC (recP ino) sum j.k j.m j.l j.s) = (it0,false,3):=by rw [hb]; rfl
  rw [e] at he
  unfold fdF at he
  rw [if_neg hi,if_pos (by decide)] at he
  cases he
 | true =>
  have e : refW v.1 true (fieldsC (recP ino) sum j.k j.m j.l j.s) = (⟨v.1.kind,wM (fieldsC (recP ino) sum j.k j.m j.l j.s) v.1.mode,wL (fieldsC (recP ino) sum j.k j.m j.l j.s) v.1.links,wS (fieldsC (recP ino) sum j.k j.m j.l j.s) v.1.size,v.1.lead,v.1.bytes⟩,true,0):=rfl
  have hF : fdF ino v = (⟨v.1.kind,v.1.mode,v.1.links,v.1.size⟩,0):=by
   unfold fdF
   rw [if_neg hi,if_neg (by simpa using hv),if_pos hb]
  rw [hF] at h
  rw [e]
  unfold fdF
  rw [if_neg hi,if_neg (by simp),if_pos rfl]
  exact h rfl
theorem Iv.start (l : List (ByteArray × ByteArray)) (most nx : Int) (hm : most ≤ 9223372036854775807) : Iv (sg0 l most nx):=by
 refine ⟨newS_ok hm,(fun c hc => absurd hc (by simp [sg0,newS])),fun ino he => ?_⟩
 unfold fdR at he ⊢
 have e : vgR (sg0 l most nx).l (sg0 l most nx).d (recP ino) = (stI l (recP ino),stB l (recP ino),stE l (recP ino)):=vg_new l most (recP ino)
 rw [e] at he ⊢
 unfold fdF at he ⊢
 by_cases hi : ino = 0
 ·rw [if_pos hi] at he; cases he
 rw [if_neg hi] at he ⊢
 by_cases h2 : stE l (recP ino) = 0
 case neg => rw [if_pos h2] at he; exact absurd he h2
 rw [if_neg (by simpa using h2)] at he ⊢
 cases hb : stB l (recP ino) with
 | false => rw [hb,if_neg (by simp)] at he; cases he
 | true => rw [if_pos rfl]; exact st_ok rfl hb
theorem Iv.make {s : Sg} (h : Iv s) (hn0 : 0 ≤ s.n) (hn1 : s.n ≤ 4294967295) (kind mode : Int) : Iv (makR s kind mode).1:=by
 unfold makR
 split
 ·exact h
 ·rename_i hok
  have hok : inoOk kind mode 1 0 = true:=by simpa using hok
  have hm : Iv (makS s kind mode):=by
   have:=h.put (makC_ok hn0 hn1 hok) (fun ino e => fd_fresh ino _ s.n kind mode hok)
   exact this.same rfl rfl
  split
  ·exact hm
  ·exact hm
theorem Iv.set {s : Sg} (h : Iv s) (ino : Int) (h0 : 0 ≤ ino) (h1 : ino ≤ 4294967295) (fs : List (Int × Int)) (hf : fiOk fs) : Iv (setR s ino fs).1:=by
 unfold setR setF
 by_cases he : (fdR s ino).2 = 0
 case neg => rw [if_pos he]; exact h
 rw [if_neg (by simpa using he)]
 cases hw : (wfR (fdR s ino).1 fs).2.2 with
 | false => rw [Bool.false_and,if_pos rfl]; exact h
 | true =>
  obtain ⟨j,sum,hS,e1,e2,e3⟩:=wfR_mix hw
  have hok:=wfR_ok (i:=in0) hf (by exact in0_ok)
  rw [e1] at hok
  rw [e1,e2]
  dsimp only
  cases ho : inoOk (mixI (fdR s ino).1 j sum).k (mixI (fdR s ino).1 j sum).m (mixI (fdR s ino).1 j sum).l (mixI (fdR s ino).1 j sum).s with
  | false => rw [Bool.true_and,if_pos rfl]; exact h
  | true =>
   rw [if_neg (by simp)]
   split
   ·exact h
   have hp : Iv { s with d:=putS s.d (fieldsC (recP ino) sum j.k j.m j.l j.s) }:=h.put (fields_ok h0 h1 hok.2 hok.1) (fun i e => by
    have ei : ino = i:=congrArg Pl.ino e
    subst ei
    exact fd_fields (fun _ => ho))
   split
   ·exact hp
   ·exact hp.same rfl rfl
theorem Iv.gone {s : Sg} (h : Iv s) : ∀ (ps : List Pl),(∀ p ∈ ps,PlOk p) → Iv (goneL s ps).1
 | [],hp => by unfold goneL; exact h
 | p :: ps,hp => by
  have hg : Iv (gone1 s p):=h.put (gone_ok (hp p List.mem_cons_self)) (fun ino e => fd_gone ino _ p)
  unfold goneL
  split
  ·exact hg
  ·exact Iv.gone hg ps (fun q hq => hp q (List.mem_cons_of_mem _ hq))
theorem rmE_st (g : Sg × Int) (ino : Int) : (rmE g ino).1.l = g.1.l ∧ (rmE g ino).1.d = g.1.d:=by
 unfold rmE
 split <;> exact ⟨rfl,rfl⟩
theorem Iv.rm {s : Sg} (h : Iv s) (ino : Int) (h0 : 0 ≤ ino) (h1 : ino ≤ 4294967295) : Iv (rmR s ino).1:=by
 have hb:=fd_bd h.d h.c ino
 unfold rmR rmF
 split
 ·exact h
 have hB : Iv (rmB s ino (fdR s ino).1):=by
  unfold rmB
  split
  ·exact h.same rfl rfl
  ·exact h
 have hg:=hB.gone (placesL ino (fdR s ino).1) (placesL_ok h0 h1 hb.s1)
 obtain ⟨e1,e2⟩:=rmE_st (goneL (rmB s ino (fdR s ino).1) (placesL ino (fdR s ino).1)) ino
 exact hg.same e1 e2
theorem lkE_st (g : Sg × Int) (n : Int) : (lkE g n).1 = g.1:=by
 unfold lkE
 split <;> rfl
theorem Iv.link {s : Sg} (h : Iv s) (ino : Int) (h0 : 0 ≤ ino) (h1 : ino ≤ 4294967295) (y : Int) : Iv (lkR s ino y).1:=by
 have hb:=fd_bd h.d h.c ino
 have hl0:=hb.l0
 have hl1:=hb.l1
 unfold lkR
 split
 ·exact h
 split
 ·exact h
 have hR : Iv { s with R:=addK s.R ino [2] }:=h.same rfl rfl
 generalize ({ s with R:=addK s.R ino [2] } : Sg) = t at *
 unfold lkB
 split
 ·exact hR
 split
 ·rw [lkE_st]; exact hR.rm ino h0 h1
 split
 ·exact hR
 ·rw [lkE_st]
  exact hR.set ino h0 h1 _ (by intro f hf; simp at hf; subst hf; dsimp only; omega)
theorem Iv.size {s : Sg} (h : Iv s) (ino : Int) : Iv (sizeR s ino).1:=by
 unfold sizeR
 split
 ·exact h
 ·exact h.same rfl rfl
def dE (s : Sg) (k : Int) (x : ByteArray) : Int:=(vgR s.l s.d (entP k x)).1.lead
def dD (s : Sg) (t : Int) : Prop:=(fdR s t).2 = 0 ∧ (fdR s t).1.k ≠ 1
structure Vs (s t : Sg) : Prop where
 l : t.l = s.l
 d : t.d = s.d
 n : t.n = s.n
theorem Vs.refl (s : Sg) : Vs s s:=⟨rfl,rfl,rfl⟩
theorem Vs.trans {a b c : Sg} (h : Vs a b) (k : Vs b c) : Vs a c:=⟨k.l.trans h.l,k.d.trans h.d,k.n.trans h.n⟩
theorem Vs.e {s t : Sg} (h : Vs s t) (k : Int) (x : ByteArray) : dE t k x = dE s k x:=by unfold dE; rw [h.l,h.d]
theorem Vs.f {s t : Sg} (h : Vs s t) (u : Int) : fdR t u = fdR s u:=fd_same h.l h.d u
theorem drLook_vs (s : Sg) (ino : Int) (name : ByteArray) : Vs s (drLook DgP s ino name).1:=by
 unfold drLook drLook1
 by_cases hc : (drKind DgP s ino 1 192).2 ≠ 0
 ·rw [if_pos hc]; exact ⟨rfl,rfl,rfl⟩
 ·rw [if_neg hc]; exact ⟨rfl,rfl,rfl⟩
theorem drDown_rel {D : Sgd} (V : D.G.S → D.G.S → Prop) (hr : ∀ s,V s s) (ht : ∀ a b c,V a b → V b c → V a c) (hl : ∀ s k x,V s (drLook D s k x).1) : ∀ (ns : List ByteArray) (s : D.G.S) (at_ : Int),V s (drDown D ns s at_).1
 | [],s,at_ => hr s
 | x :: ns,s,at_ => by
  have h1 : V s (drStep D (drLook D s at_ x)).1:=by rw [drStep_st]; exact hl s at_ x
  unfold drDown drNext
  split
  ·exact h1
  ·exact ht _ _ _ h1 (drDown_rel V hr ht hl ns _ _)
theorem drSpot_rel {D : Sgd} (V : D.G.S → D.G.S → Prop) (hr : ∀ s,V s s) (ht : ∀ a b c,V a b → V b c → V a c) (hl : ∀ s k x,V s (drLook D s k x).1) (s : D.G.S) (p : ByteArray) : V s (drSpot D s p).1:=by
 unfold drSpot
 by_cases hE : parE p ≠ 0
 ·rw [if_pos hE]; exact hr s
 ·rw [if_neg hE]
  have h1:=drDown_rel V hr ht hl (parL p) s 1
  unfold drSpot1
  split
  ·exact h1
  ·have h2:=ht _ _ _ h1 (hl (drDown D (parL p) s 1).1 (drDown D (parL p) s 1).2.1 (parN p))
   unfold drSpot2
   split
   ·exact h2
   ·exact h2
theorem drFind_rel {D : Sgd} (V : D.G.S → D.G.S → Prop) (hr : ∀ s,V s s) (ht : ∀ a b c,V a b → V b c → V a c) (hl : ∀ s k x,V s (drLook D s k x).1) (s : D.G.S) (p : ByteArray) : V s (drFind D s p).1:=by
 unfold drFind
 by_cases hE : pathE p ≠ 0
 ·rw [if_pos hE]; exact hr s
 ·rw [if_neg hE]; exact drDown_rel V hr ht hl _ s 1
theorem drStep_0 {D : Sgd} {r : D.G.S × Int × Int} (h : (drStep D r).2.2 = 0) : r.2.2 = 0 ∧ r.2.1 ≠ 0 ∧ drStep D r = r:=by
 unfold drStep at h ⊢
 by_cases hc : r.2.2 = 0 ∧ r.2.1 = 0
 ·rw [if_pos hc] at h; exact absurd h (show ¬ (190 : Int) = 0 by decide)
 ·rw [if_neg hc] at h ⊢; exact ⟨h,fun e => hc ⟨h,e⟩,rfl⟩
theorem drDown_ent {D : Sgd} (E : D.G.S → Int → ByteArray → Int) (hE : ∀ s k x,(drLook D s k x).2.2 = 0 → (drLook D s k x).2.1 = E s k x) (hv : ∀ s a b k x,E (drLook D s a b).1 k x = E s k x) : ∀ (ns : List ByteArray) (s : D.G.S) (at_ : Int),(drDown D ns s at_).2.2 = 0 → (drDown D ns s at_).2.1 = at_ ∨ ∃ k x,(drDown D ns s at_).2.1 = E s k x
 | [],s,at_,_ => .inl rfl
 | x :: ns,s,at_,h => by
  unfold drDown drNext at h ⊢
  by_cases hc : (drStep D (drLook D s at_ x)).2.2 ≠ 0
  ·rw [if_pos hc] at h; exact absurd h hc
  ·rw [if_neg hc] at h ⊢
   obtain ⟨q1,q2,q3⟩:=drStep_0 (Decidable.not_not.1 hc)
   have e1:=hE _ _ _ q1
   rw [q3] at h ⊢
   rcases drDown_ent E hE hv ns (drLook D s at_ x).1 (drLook D s at_ x).2.1 h with e | ⟨k,y,e⟩
   ·exact .inr ⟨at_,x,e.trans e1⟩
   ·exact .inr ⟨k,y,e.trans (hv s at_ x k y)⟩
theorem drSpot_cases {D : Sgd} {s : D.G.S} {p : ByteArray} (h : (drSpot D s p).2.2 = 0) : parE p = 0 ∧ (drDown D (parL p) s 1).2.2 = 0 ∧ (drLook D (drDown D (parL p) s 1).1 (drDown D (parL p) s 1).2.1 (parN p)).2.2 = 0 ∧
  drSpot D s p = ((drLook D (drDown D (parL p) s 1).1 (drDown D (parL p) s 1).2.1 (parN p)).1,⟨(drDown D (parL p) s 1).2.1,parN p,(drLook D (drDown D (parL p) s 1).1 (drDown D (parL p) s 1).2.1 (parN p)).2.1⟩,0):=by
 unfold drSpot at h ⊢
 by_cases hE : parE p ≠ 0
 ·rw [if_pos hE] at h; exact absurd h hE
 rw [if_neg hE] at h ⊢
 unfold drSpot1 at h ⊢
 by_cases h1 : (drDown D (parL p) s 1).2.2 ≠ 0
 ·rw [if_pos h1] at h; exact absurd h h1
 rw [if_neg h1] at h ⊢
 unfold drSpot2 at h ⊢
 by_cases h2 : (drLook D (drDown D (parL p) s 1).1 (drDown D (parL p) s 1).2.1 (parN p)).2.2 ≠ 0
 ·rw [if_pos h2] at h; exact absurd h h2
 rw [if_neg h2]
 exact ⟨Decidable.not_not.1 hE,Decidable.not_not.1 h1,Decidable.not_not.1 h2,rfl⟩
theorem drFree_cases {D : Sgd} {s : D.G.S} {p : ByteArray} (h : (drFree D s p).2.2 = 0) : (drSpot D s p).2.2 = 0 ∧ drFree D s p = drSpot D s p:=by
 unfold drFree drFree1 at h ⊢
 by_cases hc : (drSpot D s p).2.2 = 0 ∧ (drSpot D s p).2.1.to ≠ 0
 ·rw [if_pos hc] at h; exact absurd h (show ¬ (191 : Int) = 0 by decide)
 ·rw [if_neg hc] at h ⊢; exact ⟨h,rfl⟩
theorem drTaken_cases {D : Sgd} {s : D.G.S} {p : ByteArray} (h : (drTaken D s p).2.2 = 0) : (drSpot D s p).2.2 = 0 ∧ drTaken D s p = drSpot D s p:=by
 unfold drTaken drTaken1 at h ⊢
 by_cases hc : (drSpot D s p).2.2 = 0 ∧ (drSpot D s p).2.1.to = 0
 ·rw [if_pos hc] at h; exact absurd h (show ¬ (190 : Int) = 0 by decide)
 ·rw [if_neg hc] at h ⊢; exact ⟨h,rfl⟩
theorem drFind_cases {D : Sgd} {s : D.G.S} {p : ByteArray} (h : (drFind D s p).2.2 = 0) : pathE p = 0 ∧ drFind D s p = drDown D (pathL p) s 1:=by
 unfold drFind at h ⊢
 by_cases hE : pathE p ≠ 0
 ·rw [if_pos hE] at h; exact absurd h hE
 ·rw [if_neg hE]; exact ⟨Decidable.not_not.1 hE,rfl⟩
theorem drDown_vs (ns : List ByteArray) (s : Sg) (at_ : Int) : Vs s (drDown DgP ns s at_).1:=drDown_rel (D:=DgP) Vs Vs.refl (fun _ _ _ h k => Vs.trans h k) drLook_vs ns s at_
theorem drSpot_vs (s : Sg) (p : ByteArray) : Vs s (drSpot DgP s p).1:=drSpot_rel (D:=DgP) Vs Vs.refl (fun _ _ _ h k => Vs.trans h k) drLook_vs s p
theorem drFind_vs (s : Sg) (p : ByteArray) : Vs s (drFind DgP s p).1:=drFind_rel (D:=DgP) Vs Vs.refl (fun _ _ _ h k => Vs.trans h k) drLook_vs s p
theorem drFree_vs (s : Sg) (p : ByteArray) : Vs s (drFree DgP s p).1:=by
 have h:=drSpot_vs s p
 have e : (drFree DgP s p).1 = (drSpot DgP s p).1:=drFree_st DgP s p
 rw [e]; exact h
theorem drTaken_vs (s : Sg) (p : ByteArray) : Vs s (drTaken DgP s p).1:=by
 have h:=drSpot_vs s p
 have e : (drTaken DgP s p).1 = (drSpot DgP s p).1:=drTaken_st DgP s p
 rw [e]; exact h
theorem drKind_0 {s : Sg} {ino k e : Int} (he : e ≠ 0) (h : (drKind DgP s ino k e).2 = 0) : (fdR s ino).2 = 0 ∧ (fdR s ino).1.k ≠ k:=by
 have h' : (if (fdR s ino).2 ≠ 0 then (fdR s ino).2 else if (fdR s ino).1.k = k then e else 0) = 0:=h
 by_cases h1 : (fdR s ino).2 = 0
 ·rw [if_neg (by simpa using h1)] at h'
  refine ⟨h1,fun h2 => ?_⟩
  rw [if_pos h2] at h'
  exact he h'
 ·rw [if_pos h1] at h'; exact absurd h' h1
theorem drLook_E {s : Sg} {ino : Int} {name : ByteArray} (h : (drLook DgP s ino name).2.2 = 0) : (drLook DgP s ino name).2.1 = dE s ino name ∧ dD s ino:=by
 unfold drLook drLook1 at h ⊢
 by_cases hc : (drKind DgP s ino 1 192).2 ≠ 0
 ·rw [if_pos hc] at h; exact absurd h hc
 ·rw [if_neg hc] at h ⊢
  exact ⟨rfl,drKind_0 (by decide) (Decidable.not_not.1 hc)⟩
theorem drDown_E (ns : List ByteArray) (s : Sg) (at_ : Int) (h : (drDown DgP ns s at_).2.2 = 0) : (drDown DgP ns s at_).2.1 = at_ ∨ ∃ k x,(drDown DgP ns s at_).2.1 = dE s k x :=
 drDown_ent (D:=DgP) dE (fun s k x q => (drLook_E q).1) (fun s a b k x => (drLook_vs s a b).e k x) ns s at_ h
theorem drFind_E {s : Sg} {p : ByteArray} (h : (drFind DgP s p).2.2 = 0) : (drFind DgP s p).2.1 = 1 ∨ ∃ k x,(drFind DgP s p).2.1 = dE s k x:=by
 obtain ⟨_,e⟩:=drFind_cases (D:=DgP) h
 rw [e] at h ⊢
 exact drDown_E _ s 1 h
theorem dE_bd {s : Sg} (hd : DlOk s.d) (k : Int) (x : ByteArray) : 0 ≤ dE s k x ∧ dE s k x ≤ 4294967295:=vgR_to s.l hd (entP k x)
theorem drSpot_ok {s : Sg} (hd : DlOk s.d) {p : ByteArray} (h : (drSpot DgP s p).2.2 = 0) : SptOk (drSpot DgP s p).2.1 ∧ (drSpot DgP s p).2.1.to = dE s (drSpot DgP s p).2.1.ino (drSpot DgP s p).2.1.name:=by
 obtain ⟨h0,h1,h2,e⟩:=drSpot_cases (D:=DgP) h
 rw [e]
 obtain ⟨_,_,h8⟩:=par_ok h0
 have hv:=drDown_vs (parL p) s 1
 have hb : 0 ≤ (drDown DgP (parL p) s 1).2.1 ∧ (drDown DgP (parL p) s 1).2.1 ≤ 4294967295:=by
  rcases drDown_E (parL p) s 1 h1 with e | ⟨k,x,e⟩
  ·rw [e]; decide
  ·rw [e]; exact dE_bd hd k x
 obtain ⟨e1,_⟩:=drLook_E h2
 have e2:=e1.trans (hv.e _ _)
 have hb2:=dE_bd hd (drDown DgP (parL p) s 1).2.1 (parN p)
 exact ⟨⟨hb.1,hb.2,h8,by rw [e2]; exact hb2.1,by rw [e2]; exact hb2.2⟩,e2⟩
theorem drFree_ok {s : Sg} (hd : DlOk s.d) {p : ByteArray} (h : (drFree DgP s p).2.2 = 0) : SptOk (drFree DgP s p).2.1:=by
 obtain ⟨h1,e⟩:=drFree_cases (D:=DgP) h
 rw [e]; exact (drSpot_ok hd h1).1
theorem drTaken_ok {s : Sg} (hd : DlOk s.d) {p : ByteArray} (h : (drTaken DgP s p).2.2 = 0) : SptOk (drTaken DgP s p).2.1 ∧ (drTaken DgP s p).2.1.to = dE s (drTaken DgP s p).2.1.ino (drTaken DgP s p).2.1.name ∧ (drTaken DgP s p).2.1.to ≠ 0:=by
 have hne:=drTaken_ne DgP s p h
 obtain ⟨h1,e⟩:=drTaken_cases (D:=DgP) h
 rw [e] at hne ⊢
 obtain ⟨q1,q2⟩:=drSpot_ok hd h1
 exact ⟨q1,q2,hne⟩
theorem vg_p {l : List (ByteArray × ByteArray)} {d : Dl} (hd : DlOk d) (hc : CksOk d) {c : Cg} (hcg : CgOk c) (q : Pl) : vgR l (putS d c) q = if (putX d c).2 = 0 ∧ plEq c.pl q = true then aft (vgR l d c.pl) c else vgR l d q:=by
 by_cases h0 : (putX d c).2 = 0
 ·rw [vg_put l hd hc hcg h0]
  by_cases hq : plEq c.pl q = true
  ·rw [if_pos hq,if_pos ⟨h0,hq⟩]
  ·rw [if_neg hq,if_neg (fun e => hq e.2)]
 ·rw [putS_err h0,if_neg (fun e => h0 e.1)]
theorem rec_ent {a k : Int} {x : ByteArray} : recP a ≠ entP k x:=fun e => by have:=congrArg Pl.part e; simp [recP,entP] at this
theorem Iv.ent {s : Sg} (h : Iv s) {c : Cg} (hc : CgOk c) (hp : c.pl.part = 2) : Iv { s with d:=putS s.d c }:=h.put hc (fun ino e => by rw [e] at hp; simp [recP] at hp)
theorem dw_cases {D : Sgd} {s : D.G.S} {ino : Int} {name : ByteArray} {c : Cg} (h : (drWrite D s ino name c).2 = 0) : D.G.putE s c = 0 ∧ (drWrite D s ino name c).1 = D.G.wr (D.G.putS s c) (tcN ino name):=by
 unfold drWrite at h ⊢
 by_cases hE : D.G.putE s c ≠ 0
 ·rw [if_pos hE] at h; exact absurd h hE
 ·rw [if_neg hE]; exact ⟨Decidable.not_not.1 hE,rfl⟩
theorem dw_ok {s : Sg} {ino : Int} {name : ByteArray} {c : Cg} (h : (drWrite DgP s ino name c).2 = 0) : (putX s.d c).2 = 0 ∧ (drWrite DgP s ino name c).1 = { s with d:=putS s.d c,U:=addL s.U (tcN ino name) }:=dw_cases (D:=DgP) h
theorem ent_set {s : Sg} (iv : Iv s) {ino t : Int} {name : ByteArray} (hc : CgOk (toC ino name t)) (h : (drWrite DgP s ino name (toC ino name t)).2 = 0) :
  (∀ k x,dE (drWrite DgP s ino name (toC ino name t)).1 k x = if k = ino ∧ x = name then t else dE s k x) ∧ (∀ u,fdR (drWrite DgP s ino name (toC ino name t)).1 u = fdR s u) ∧ Iv (drWrite DgP s ino name (toC ino name t)).1 ∧ (drWrite DgP s ino name (toC ino name t)).1.n = s.n:=by
 obtain ⟨h0,e⟩:=dw_ok h
 rw [e]
 refine ⟨fun k x => ?_,fun u => ?_,(iv.ent hc rfl).same rfl rfl,rfl⟩
 ·unfold dE
  dsimp only
  rw [vg_p iv.d iv.c hc]
  by_cases hk : k = ino ∧ x = name
  ·obtain ⟨rfl,rfl⟩:=hk
   rw [if_pos ⟨h0,plEq_iff.2 rfl⟩,if_pos ⟨rfl,rfl⟩]
   rfl
  ·rw [if_neg hk,if_neg (fun q => hk (by
    have e2 : entP ino name = entP k x:=plEq_iff.1 q.2
    simp only [entP,Pl.mk.injEq] at e2
    exact ⟨e2.1.symm,e2.2.2.1.symm⟩))]
 ·unfold fdR
  dsimp only
  rw [vg_p iv.d iv.c hc,if_neg (fun q => rec_ent (show recP u = entP ino name from (plEq_iff.1 q.2).symm))]
theorem ent_gone {s : Sg} (iv : Iv s) {ino : Int} {name : ByteArray} (hc : CgOk (goneC (entP ino name))) (h : (drWrite DgP s ino name (goneC (entP ino name))).2 = 0) :
  (∀ k x,dE (drWrite DgP s ino name (goneC (entP ino name))).1 k x = if k = ino ∧ x = name then 0 else dE s k x) ∧ (∀ u,fdR (drWrite DgP s ino name (goneC (entP ino name))).1 u = fdR s u) ∧ Iv (drWrite DgP s ino name (goneC (entP ino name))).1 ∧ (drWrite DgP s ino name (goneC (entP ino name))).1.n = s.n:=by
 obtain ⟨h0,e⟩:=dw_ok h
 rw [e]
 refine ⟨fun k x => ?_,fun u => ?_,(iv.ent hc rfl).same rfl rfl,rfl⟩
 ·unfold dE
  dsimp only
  rw [vg_p iv.d iv.c hc]
  by_cases hk : k = ino ∧ x = name
  ·obtain ⟨rfl,rfl⟩:=hk
   rw [if_pos ⟨h0,plEq_iff.2 rfl⟩,if_pos ⟨rfl,rfl⟩]
   rfl
  ·rw [if_neg hk,if_neg (fun q => hk (by
    have e2 : entP ino name = entP k x:=plEq_iff.1 q.2
    simp only [entP,Pl.mk.injEq] at e2
    exact ⟨e2.1.symm,e2.2.2.1.symm⟩))]
 ·unfold fdR
  dsimp only
  rw [vg_p iv.d iv.c hc,if_neg (fun q => rec_ent (show recP u = entP ino name from (plEq_iff.1 q.2).symm))]
structure Lk (t0 : Int) (s s' : Sg) : Prop where
 e : ∀ k x,dE s' k x = dE s k x
 f : ∀ t,t ≠ t0 → fdR s' t = fdR s t
 g : (fdR s' t0).2 = 0 → (fdR s t0).2 = 0 ∧ (fdR s' t0).1.k = (fdR s t0).1.k
 n : s'.n = s.n
theorem Lk.refl (t0 : Int) (s : Sg) : Lk t0 s s:=⟨fun _ _ => rfl,fun _ _ => rfl,fun h => ⟨h,rfl⟩,rfl⟩
theorem Lk.vs {t0 : Int} {s s' s'' : Sg} (h : Lk t0 s s') (hl : s''.l = s'.l) (hd : s''.d = s'.d) (hn : s''.n = s'.n) : Lk t0 s s'':=by
 have hv : Vs s' s'':=⟨hl,hd,hn⟩
 exact ⟨fun k x => (hv.e k x).trans (h.e k x),fun t ht => (hv.f t).trans (h.f t ht),fun q => by rw [hv.f t0] at q ⊢; exact h.g q,hn.trans h.n⟩
theorem fd_gone0 (t : Int) (v : It × Bool × Int) (p : Pl) : (fdF t (aft v (goneC p))).2 ≠ 0:=by
 have e : aft v (goneC p) = (it0,false,0):=rfl
 rw [e]
 unfold fdF
 split <;> decide
theorem fd_kind {t : Int} {v : It × Bool × Int} {p : Pl} {f k m l z : Int} (hp : p.part = 1) (h : (fdF t (aft v (fieldsC p f k m l z))).2 = 0) : (fdF t v).2 = 0 ∧ (fdF t (aft v (fieldsC p f k m l z))).1.k = (fdF t v).1.k:=by
 have hA : refA (fieldsC p f k m l z) = false:=by unfold refA fieldsC; simp [hp]; rfl
 unfold fdF at h ⊢
 by_cases ht : t = 0
 ·rw [if_pos ht] at h; exact absurd h (by decide)
 rw [if_neg ht] at h ⊢
 rw [if_neg ht]
 by_cases hv : v.2.2 = 0
 ·rw [aft_on hA hv] at h ⊢
  unfold refW at h ⊢
  have h2 : ¬ p.part = 2:=by omega
  have h3 : ¬ p.part = 3:=by omega
  simp only [fieldsC,Bool.false_eq_true,if_false,if_neg h2,if_neg h3] at h ⊢
  cases hb : v.2.1
  ·first | (rw [hb] at h; simp at h; done) | (simp at h; done)
  ·simp [hv]
 ·rw [aft_err hA hv] at h
  simp [hv] at h
theorem Lk.put {t0 : Int} {s s' : Sg} (h : Lk t0 s s') (j : Jv s') {c : Cg} (hc : CgOk c) (hp : c = goneC (recP t0) ∨ (∃ f k m l z,c = fieldsC (recP t0) f k m l z) ∨ c.pl.part = 3) : Lk t0 s { s' with d:=putS s'.d c }:=by
 have hpl : c.pl = recP t0 ∨ c.pl.part = 3:=by
  rcases hp with rfl | ⟨f,k,m,l,z,rfl⟩ | h3
  ·exact .inl rfl
  ·exact .inl rfl
  ·exact .inr h3
 refine ⟨fun k x => ?_,fun t ht => ?_,fun q => ?_,h.n⟩
 ·refine Eq.trans ?_ (h.e k x)
  unfold dE
  dsimp only
  rw [vg_p j.d j.c hc,if_neg (fun q => ?_)]
  rcases hpl with e | e
  ·exact rec_ent (e.symm.trans (plEq_iff.1 q.2))
  ·rw [plEq_iff.1 q.2] at e; simp [entP] at e
 ·refine Eq.trans ?_ (h.f t ht)
  unfold fdR
  dsimp only
  rw [vg_p j.d j.c hc,if_neg (fun q => ?_)]
  rcases hpl with e | e
  ·exact ht (congrArg Pl.ino ((plEq_iff.1 q.2).symm.trans e))
  ·rw [plEq_iff.1 q.2] at e; simp [recP] at e
 ·have hq : (fdF t0 (vgR s'.l (putS s'.d c) (recP t0))).2 = 0:=q
  show _ ∧ (fdF t0 (vgR s'.l (putS s'.d c) (recP t0))).1.k = _
  rw [vg_p j.d j.c hc] at hq ⊢
  by_cases hh : (putX s'.d c).2 = 0 ∧ plEq c.pl (recP t0) = true
  ·rw [if_pos hh] at hq ⊢
   rcases hp with rfl | ⟨f,k,m,l,z,rfl⟩ | h3
   ·exact absurd hq (fd_gone0 t0 _ _)
   ·obtain ⟨r1,r2⟩:=fd_kind rfl hq
    obtain ⟨r3,r4⟩:=h.g r1
    exact ⟨r3,r2.trans r4⟩
   ·rw [plEq_iff.1 hh.2] at h3; simp [recP] at h3
  ·rw [if_neg hh] at hq ⊢
   exact h.g hq
theorem Lk.set {t0 : Int} {s s' : Sg} (h : Lk t0 s s') (j : Jv s') (h0 : 0 ≤ t0) (h1 : t0 ≤ 4294967295) (fs : List (Int × Int)) (hf : fiOk fs) : Lk t0 s (setR s' t0 fs).1:=by
 unfold setR setF
 by_cases he : (fdR s' t0).2 = 0
 case neg => rw [if_pos he]; exact h
 rw [if_neg (by simpa using he)]
 cases hw : (wfR (fdR s' t0).1 fs).2.2 with
 | false => rw [Bool.false_and,if_pos rfl]; exact h
 | true =>
  obtain ⟨jj,sum,hS,e1,e2,e3⟩:=wfR_mix hw
  have hok:=wfR_ok (i:=in0) hf (by exact in0_ok)
  rw [e1] at hok
  rw [e1,e2]
  dsimp only
  cases ho : inoOk (mixI (fdR s' t0).1 jj sum).k (mixI (fdR s' t0).1 jj sum).m (mixI (fdR s' t0).1 jj sum).l (mixI (fdR s' t0).1 jj sum).s with
  | false => rw [Bool.true_and,if_pos rfl]; exact h
  | true =>
   rw [if_neg (by simp)]
   split
   ·exact h
   have hp : Lk t0 s { s' with d:=putS s'.d (fieldsC (recP t0) sum jj.k jj.m jj.l jj.s) }:=h.put j (fields_ok h0 h1 hok.2 hok.1) (.inr (.inl ⟨_,_,_,_,_,rfl⟩))
   split
   ·exact hp
   ·exact hp.vs rfl rfl rfl
theorem Lk.gone {t0 : Int} {s : Sg} : ∀ (ps : List Pl) {s' : Sg},Lk t0 s s' → Jv s' → (∀ p ∈ ps,PlOk p ∧ (p = recP t0 ∨ p.part = 3)) → Lk t0 s (goneL s' ps).1
 | [],s',h,j,hp => by unfold goneL; exact h
 | p :: ps,s',h,j,hp => by
  have hq:=hp p List.mem_cons_self
  have hg : Lk t0 s (gone1 s' p):=h.put j (gone_ok hq.1) (by
   rcases hq.2 with rfl | e
   ·exact .inl rfl
   ·exact .inr (.inr e))
  unfold goneL
  split
  ·exact hg
  ·exact Lk.gone ps hg (Jv_cl.put j (gone_ok hq.1)) (fun r hr => hp r (List.mem_cons_of_mem _ hr))
theorem places_rec {t0 : Int} {i : In4} : ∀ p ∈ placesL t0 i,p = recP t0 ∨ p.part = 3:=by
 intro p hp
 unfold placesL chunksL at hp
 rcases List.mem_cons.1 hp with rfl | hp
 ·exact .inl rfl
 ·obtain ⟨k,_,rfl⟩:=List.mem_map.1 hp
  exact .inr rfl
theorem Lk.rm {t0 : Int} {s s' : Sg} (h : Lk t0 s s') (j : Jv s') (h0 : 0 ≤ t0) (h1 : t0 ≤ 4294967295) : Lk t0 s (rmR s' t0).1:=by
 have hb:=fd_bd j.d j.c t0
 unfold rmR rmF
 split
 ·exact h
 have hB : Lk t0 s (rmB s' t0 (fdR s' t0).1) ∧ Jv (rmB s' t0 (fdR s' t0).1):=by
  unfold rmB
  split
  ·exact ⟨h.vs rfl rfl rfl,Jv_cl.addR t0 _ j⟩
  ·exact ⟨h,j⟩
 have hg:=Lk.gone (placesL t0 (fdR s' t0).1) hB.1 hB.2 (fun p hp => ⟨placesL_ok h0 h1 hb.s1 p hp,places_rec p hp⟩)
 generalize goneL (rmB s' t0 (fdR s' t0).1) (placesL t0 (fdR s' t0).1) = G at *
 unfold rmE
 split
 ·exact hg
 ·exact hg.vs rfl rfl rfl
theorem Lk.link {t0 : Int} {s s' : Sg} (h : Lk t0 s s') (j : Jv s') (h0 : 0 ≤ t0) (h1 : t0 ≤ 4294967295) (y : Int) : Lk t0 s (lkR s' t0 y).1:=by
 have hb:=fd_bd j.d j.c t0
 have hl0:=hb.l0
 have hl1:=hb.l1
 unfold lkR
 split
 ·exact h
 split
 ·exact h
 have hR : Lk t0 s { s' with R:=addK s'.R t0 [2] }:=h.vs rfl rfl rfl
 have jR : Jv { s' with R:=addK s'.R t0 [2] }:=Jv_cl.addR t0 _ j
 generalize ({ s' with R:=addK s'.R t0 [2] } : Sg) = t at *
 unfold lkB
 split
 ·exact hR
 split
 ·rw [lkE_sj]; exact hR.rm jR h0 h1
 split
 ·exact hR
 ·rw [lkE_sj]
  exact hR.set jR h0 h1 _ (by intro f hf; simp at hf; subst hf; dsimp only; omega)
end Go.Proofs.YtgajjphjkbnaeaaGreat
