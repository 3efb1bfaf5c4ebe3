/- DrP: in one text. -/
import Derived.Test.YtgajjphjkbnaeaaGreatQ40
import Derived.Test.YtgajjphjkbnaeaaGreatQ37
import Derived.Test.YtgajjphjkbnaeaaGreatQ41
import Derived.Test.YtgajjphjkbnaeaaGreatQ42
namespace Go.Proofs.YtgajjphjkbnaeaaGreat
open Go.RowKit
set_option linter.unusedVariables false
set_option maxHeartbeats 32000000
set_option maxRecDepth 100000
set_option linter.unusedSimpArgs false
open Go.RowKit Go.Maps
theorem vgR_to (l : List (ByteArray × ByteArray)) {d : Dl} (hd : DlOk d) (p : Pl) : 0 ≤ (vgR l d p).1.lead ∧ (vgR l d p).1.lead ≤ 4294967295:=by
 unfold vgR
 split
 ·have hc : CgOk (wasX d p):=getL_ok hd.L p
  have h0 : (0 : Int) ≤ it0.lead ∧ it0.lead ≤ 4294967295:=⟨it0_ok.t0,it0_ok.t1⟩
  have h1:=And.intro (stI_ok l p).t0 (stI_ok l p).t1
  unfold chL chR
  repeat' split
  all_goals first | exact h0 | exact h1 | exact ⟨hc.t0,hc.t1⟩
 ·exact ⟨(stI_ok l p).t0,(stI_ok l p).t1⟩
structure Cl (J : Sg → Prop) : Prop where
 d : ∀ {s},J s → DlOk s.d
 c : ∀ {s},J s → CksOk s.d
 l : ∀ {s},J s → s.l.length ≤ 1000
 L : ∀ {s},J s → s.d.L.length ≤ 1000
 put : ∀ {s},J s → ∀ {c},CgOk c → J { s with d:=putS s.d c }
 rd : ∀ {s},J s → ∀ t,J { s with R:=addL s.R t }
 wr : ∀ {s},J s → ∀ t,J { s with U:=addL s.U t }
 nx : ∀ {s},J s → J { s with n:=nextN s.n }
theorem Cl.addR {J : Sg → Prop} (q : Cl J) (ino : Int) : ∀ (ks : List Int) {s : Sg},J s → J { s with R:=addK s.R ino ks }
 | [],s,hs => hs
 | k :: ks,s,hs => q.addR ino ks (s:={ s with R:=addL s.R (tcK ino k) }) (q.rd hs (tcK ino k))
theorem Cl.addU {J : Sg → Prop} (q : Cl J) (ino : Int) : ∀ (ks : List Int) {s : Sg},J s → J { s with U:=addK s.U ino ks }
 | [],s,hs => hs
 | k :: ks,s,hs => q.addU ino ks (s:={ s with U:=addL s.U (tcK ino k) }) (q.wr hs (tcK ino k))
theorem Cl.make {J : Sg → Prop} (q : Cl J) {s : Sg} (h : J s) (hn0 : 0 ≤ s.n) (hn1 : s.n ≤ 4294967295) (kind mode : Int) : J (makR s kind mode).1:=by
 unfold makR
 split
 ·exact h
 ·rename_i hok
  have hok : inoOk kind mode 1 0 = true:=by simpa using hok
  have hm : J (makS s kind mode):=q.nx (s:={ s with d:=putS s.d (makC s kind mode) }) (q.put h (makC_ok hn0 hn1 hok))
  split
  ·exact hm
  ·exact hm
theorem Cl.set {J : Sg → Prop} (q : Cl J) {s : Sg} (h : J s) (ino : Int) (h0 : 0 ≤ ino) (h1 : ino ≤ 4294967295) (fs : List (Int × Int)) (hf : fiOk fs) : J (setR s ino fs).1:=by
 unfold setR setF
 by_cases he : (fdR s ino).2 = 0
 case neg => rw [if_pos he]; exact h
 rw [if_neg (by simpa using he)]
 cases hw : (wfR (fdR s ino).1 fs).2.2 with
 | false => rw [Bool.false_and,if_pos rfl]; exact h
 | true =>
  obtain ⟨j,sum,hS,e1,e2,e3⟩:=wfR_mix hw
  have hok:=wfR_ok (i:=in0) hf (by exact in0_ok)
  rw [e1] at hok
  rw [e1,e2]
  dsimp only
  cases ho : inoOk (mixI (fdR s ino).1 j sum).k (mixI (fdR s ino).1 j sum).m (mixI (fdR s ino).1 j sum).l (mixI (fdR s ino).1 j sum).s with
  | false => rw [Bool.true_and,if_pos rfl]; exact h
  | true =>
   rw [if_neg (by simp)]
   split
   ·exact h
   have hp : J { s with d:=putS s.d (fieldsC (recP ino) sum j.k j.m j.l j.s) }:=q.put h (fields_ok h0 h1 hok.2 hok.1)
   split
   ·exact hp
   ·exact q.addU ino _ hp
theorem Cl.gone {J : Sg → Prop} (q : Cl J) : ∀ (ps : List Pl) {s : Sg},J s → (∀ p ∈ ps,PlOk p) → J (goneL s ps).1
 | [],s,h,hp => by unfold goneL; exact h
 | p :: ps,s,h,hp => by
  have hg : J (gone1 s p):=q.put h (gone_ok (hp p List.mem_cons_self))
  unfold goneL
  split
  ·exact hg
  ·exact q.gone ps hg (fun r hr => hp r (List.mem_cons_of_mem _ hr))
theorem Cl.rm {J : Sg → Prop} (q : Cl J) {s : Sg} (h : J s) (ino : Int) (h0 : 0 ≤ ino) (h1 : ino ≤ 4294967295) : J (rmR s ino).1:=by
 have hb:=fd_bd (q.d h) (q.c h) ino
 unfold rmR rmF
 split
 ·exact h
 have hB : J (rmB s ino (fdR s ino).1):=by
  unfold rmB
  split
  ·exact q.addR ino _ h
  ·exact h
 have hg:=q.gone (placesL ino (fdR s ino).1) hB (placesL_ok h0 h1 hb.s1)
 generalize goneL (rmB s ino (fdR s ino).1) (placesL ino (fdR s ino).1) = G at *
 unfold rmE
 split
 ·exact hg
 ·exact q.addU ino _ hg
theorem lkE_sj (g : Sg × Int) (n : Int) : (lkE g n).1 = g.1:=by
 unfold lkE
 split <;> rfl
theorem Cl.link {J : Sg → Prop} (q : Cl J) {s : Sg} (h : J s) (ino : Int) (h0 : 0 ≤ ino) (h1 : ino ≤ 4294967295) (y : Int) : J (lkR s ino y).1:=by
 have hb:=fd_bd (q.d h) (q.c h) ino
 have hl0:=hb.l0
 have hl1:=hb.l1
 unfold lkR
 split
 ·exact h
 split
 ·exact h
 have hR : J { s with R:=addK s.R ino [2] }:=q.addR ino _ h
 generalize ({ s with R:=addK s.R ino [2] } : Sg) = t at *
 unfold lkB
 split
 ·exact hR
 split
 ·rw [lkE_sj]; exact q.rm hR ino h0 h1
 split
 ·exact hR
 ·rw [lkE_sj]
  exact q.set hR ino h0 h1 _ (by intro f hf; simp at hf; subst hf; dsimp only; omega)
structure Jv (s : Sg) : Prop where
 d : DlOk s.d
 c : CksOk s.d
 l : s.l.length ≤ 1000
 L : (s.d.L.length : Int) ≤ s.d.most
 m : s.d.most ≤ 1000
theorem Jv_cl : Cl Jv where
 d:=fun h => h.d
 c:=fun h => h.c
 l:=fun h => h.l
 L:=fun {s} h => by have:=h.L; have:=h.m; omega
 put:=fun {s} h {c} hc => by
  obtain ⟨q1,_,_,q2⟩:=putS_len h.d hc h.L
  exact ⟨putS_ok h.d hc,h.c.put c,h.l,by show ((putS s.d c).L.length : Int) ≤ (putS s.d c).most; rw [q2]; exact q1,by show (putS s.d c).most ≤ 1000; rw [q2]; exact h.m⟩
 rd:=fun h t => ⟨h.d,h.c,h.l,h.L,h.m⟩
 wr:=fun h t => ⟨h.d,h.c,h.l,h.L,h.m⟩
 nx:=fun h => ⟨h.d,h.c,h.l,h.L,h.m⟩
structure Rc (s t : Sg) : Prop where
 l : t.l = s.l
 b : Back s.d t.d
 r : s.R <+: t.R
def Jr (s t : Sg) : Prop:=Jv t ∧ Rc s t
theorem Jr_refl {s : Sg} (h : Jv s) : Jr s s:=⟨h,rfl,Back.refl _,List.prefix_refl _⟩
theorem addL_pre (L : List Tc) (t : Tc) : L <+: addL L t:=by
 unfold addL
 repeat' split
 all_goals simp
theorem Jr_cl (s0 : Sg) : Cl (Jr s0) where
 d:=fun h => h.1.d
 c:=fun h => h.1.c
 l:=fun h => h.1.l
 L:=fun h => Jv_cl.L h.1
 put:=fun {s} h {c} hc => ⟨Jv_cl.put h.1 hc,h.2.l,h.2.b.put h.1.d hc,h.2.r⟩
 rd:=fun {s} h t => ⟨Jv_cl.rd h.1 t,h.2.l,h.2.b,h.2.r.trans (addL_pre s.R t)⟩
 wr:=fun h t => ⟨Jv_cl.wr h.1 t,h.2.l,h.2.b,h.2.r⟩
 nx:=fun h => ⟨Jv_cl.nx h.1,h.2.l,h.2.b,h.2.r⟩
theorem Rc.back {s t : Sg} (h : Rc s t) : undoS t.d s.d.pus.length = s.d ∧ t.R.take s.R.length = s.R:=by
 refine ⟨h.b.is,?_⟩
 obtain ⟨r,hr⟩:=h.r
 rw [← hr,List.take_left]
def DgP : Sgd:=⟨SgP,makR,rmR,lkR,nmsR,Jr⟩
theorem DgP_ok : DgP.Ok where
 g:=SgP_ok
 jF:=fun {s0 s} h ino => h
 jG:=fun {s0 s} h p => h
 jR:=fun {s0 s} h t => (Jr_cl s0).rd (s:=s) h t
 jW:=fun {s0 s} h t => (Jr_cl s0).wr (s:=s) h t
 jP:=fun {B w a X s0 s} _ h c hc => (Jr_cl s0).put (s:=s) h hc
 jM:=fun {B w a X s0 s} hi h k m => by obtain ⟨q0,q1⟩:=sg_n hi; exact (Jr_cl s0).make (s:=s) h q0 q1 k m
 jD:=fun {B w a X s0 s} _ h ino h0 h1 => (Jr_cl s0).rm (s:=s) h ino h0 h1
 jL:=fun {B w a X s0 s} _ h ino h0 h1 y => (Jr_cl s0).link (s:=s) h ino h0 h1 y
 jN:=fun {s0 s} h ino => (Jr_cl s0).rd (s:=s) h (tcA ino)
 bM:=fun {s n} h k m => Sk.make (s:=s) h k m
 bD:=fun {B w a X s n} hi h ino => Sk.rm (s:=s) h (sg_ok hi) ino
 bL:=fun {B w a X s n} hi h ino y => Sk.link (s:=s) h (sg_ok hi) ino y
 bN:=fun {s n} h ino => Sk.addR (s:=s) h (tcA ino)
 getT:=fun {B w a X s} h p => vgR_to s.l (sg_ok h) p
 makT:=fun {B w a X s} h k m => by
  obtain ⟨h0,h1⟩:=sg_n h
  show 0 ≤ (makR s k m).2.1 ∧ (makR s k m).2.1 ≤ 4294967295
  unfold makR
  split
  ·exact ⟨Int.le_refl _,show (0 : Int) ≤ 4294967295 by decide⟩
  split
  ·exact ⟨Int.le_refl _,show (0 : Int) ≤ 4294967295 by decide⟩
  ·exact ⟨h0,h1⟩
 maks:=fun {B w a X s n} h kind mode hk hn => make_in h kind mode (Nat.le_trans hk.L (by omega)) (Nat.le_trans hk.P (by omega))
 rms:=fun {B w a X s n} h ino h0 h1 hk hn => rm_in h ino h0 h1 hk (by omega) (Nat.le_trans hk.R (by omega)) (Nat.le_trans hk.U (by omega))
 lks:=fun {B w a X s n} h ino h0 h1 y y0 y1 hk hn => link_in h ino h0 h1 y y0 y1 hk hn (Nat.le_trans hk.R (by omega)) (Nat.le_trans hk.U (by omega))
 nmsC:=fun {B w a X s0 s n} h ino h0 h1 hk hn hj => names_in h ino h0 h1 hk hn ((Jr_cl s0).l (s:=s) hj) ((Jr_cl s0).L (s:=s) hj)
end Go.Proofs.YtgajjphjkbnaeaaGreat
