/- InC0, VwCks, InM, InC, InD: in one text. -/
import Derived.Test.YtgajjphjkbnaeaaGreatQ1
import Derived.Test.YtgajjphjkbnaeaaGreatQ30
import Derived.Test.YtgajjphjkbnaeaaGreatQ29
import Derived.Test.YtgajjphjkbnaeaaGreatQ12
namespace Go.Proofs.YtgajjphjkbnaeaaGreat
open Go.RowKit
set_option linter.unusedVariables false
set_option maxHeartbeats 32000000
set_option maxRecDepth 100000
set_option linter.unusedSimpArgs false
open Go.RowKit Go.Maps
def SRow (w : World) (a : Sa) : Prop:=w.heap[a.s]? = some (.cells #[.pointer (some ⟨a.v,0,none⟩),.pointer (some ⟨a.r,0,none⟩),.pointer (some ⟨a.u,0,none⟩),alV a.x] 62 (0,0))
theorem SgIn.srow {B : Nat} {w : World} {a : Sa} {X : List Nat} {s : Sg} (h : SgIn B w a X s) : SRow w a:=h.row
theorem SRow.below {w w' : World} {a : Sa} (h : SRow w a) (hb : Below w.heap.size w w') : SRow w' a:=(hb.block a.s (lt_of_row h)).trans h
theorem SRow.c0 {w : World} {a : Sa} (h : SRow w a) : w.cell? ⟨a.s,0,none⟩ = some (.pointer (some ⟨a.v,0,none⟩)):=by rw [cell_of_row _ _ _ _ _ (0,0) h]; rfl
theorem SRow.c1 {w : World} {a : Sa} (h : SRow w a) : w.cell? ⟨a.s,1,none⟩ = some (.pointer (some ⟨a.r,0,none⟩)):=by rw [cell_of_row _ _ _ _ _ (0,0) h]; rfl
theorem SRow.c2 {w : World} {a : Sa} (h : SRow w a) : w.cell? ⟨a.s,2,none⟩ = some (.pointer (some ⟨a.u,0,none⟩)):=by rw [cell_of_row _ _ _ _ _ (0,0) h]; rfl
theorem SgOut.srow {B : Nat} {w w' : World} {a : Sa} {X : List Nat} {s : Sg} (h : SgOut B w a X s w') : SRow w' a:=by
 obtain ⟨X',h1,_⟩:=h
 exact h1.row
theorem SgOut.sole {B : Nat} {w w' : World} {a : Sa} {X : List Nat} {s : Sg} (h : SgOut B w a X s w') : Sole X w w':=by
 obtain ⟨X',_,h2,_⟩:=h
 exact h2
def fiOk (fs : List (Int × Int)) : Prop:=∀ f ∈ fs,-9223372036854775808 ≤ f.2 ∧ f.2 ≤ 9223372036854775807
theorem wf1_ok {st : Option (In4 × Int)} {f : Int × Int} (hf : -9223372036854775808 ≤ f.2 ∧ f.2 ≤ 9223372036854775807) (h : ∀ p,st = some p → InoOk p.1.k p.1.m p.1.l p.1.s ∧ (p.2 = 0 ∨ p.2 = 1 ∨ p.2 = 2 ∨ p.2 = 3 ∨ p.2 = 4 ∨ p.2 = 5 ∨ p.2 = 6 ∨ p.2 = 7)) :
  ∀ p,wf1 st f = some p → InoOk p.1.k p.1.m p.1.l p.1.s ∧ (p.2 = 0 ∨ p.2 = 1 ∨ p.2 = 2 ∨ p.2 = 3 ∨ p.2 = 4 ∨ p.2 = 5 ∨ p.2 = 6 ∨ p.2 = 7):=by
 intro p hp
 cases st with
 | none => cases hp
 | some q =>
  obtain ⟨⟨k,m,l,s⟩,sum⟩:=q
  obtain ⟨h1,h2⟩:=h _ rfl
  dsimp only at h1 h2
  unfold wf1 at hp
  dsimp only at hp
  split at hp
  ·cases hp
  ·split at hp
   ·cases hp
    refine ⟨⟨h1.k0,h1.k1,hf.1,hf.2,h1.l0,h1.l1,h1.s0,h1.s1⟩,?_⟩
    rcases h2 with rfl | rfl | rfl | rfl | rfl | rfl | rfl | rfl <;> (dsimp only; decide)
   ·split at hp
    ·cases hp
     refine ⟨⟨h1.k0,h1.k1,h1.m0,h1.m1,hf.1,hf.2,h1.s0,h1.s1⟩,?_⟩
     rcases h2 with rfl | rfl | rfl | rfl | rfl | rfl | rfl | rfl <;> (dsimp only; decide)
    ·split at hp
     ·cases hp
      refine ⟨⟨h1.k0,h1.k1,h1.m0,h1.m1,h1.l0,h1.l1,hf.1,hf.2⟩,?_⟩
      rcases h2 with rfl | rfl | rfl | rfl | rfl | rfl | rfl | rfl <;> (dsimp only; decide)
     ·cases hp
theorem wf_fold {fs : List (Int × Int)} (hf : fiOk fs) : ∀ {st : Option (In4 × Int)},(∀ p,st = some p → InoOk p.1.k p.1.m p.1.l p.1.s ∧ (p.2 = 0 ∨ p.2 = 1 ∨ p.2 = 2 ∨ p.2 = 3 ∨ p.2 = 4 ∨ p.2 = 5 ∨ p.2 = 6 ∨ p.2 = 7)) →
  ∀ p,fs.foldl wf1 st = some p → InoOk p.1.k p.1.m p.1.l p.1.s ∧ (p.2 = 0 ∨ p.2 = 1 ∨ p.2 = 2 ∨ p.2 = 3 ∨ p.2 = 4 ∨ p.2 = 5 ∨ p.2 = 6 ∨ p.2 = 7):=by
 induction fs with
 | nil => intro st h p hp; exact h p hp
 | cons f fs ih =>
  intro st h p hp
  exact ih (fun x hx => hf x (List.mem_cons_of_mem _ hx)) (wf1_ok (hf f List.mem_cons_self) h) p hp
theorem in0_ok : InoOk in0.k in0.m in0.l in0.s:=⟨by decide,by decide,by decide,by decide,by decide,by decide,by decide,by decide⟩
theorem wfR_ok {i : In4} {fs : List (Int × Int)} (hf : fiOk fs) (hi : InoOk i.k i.m i.l i.s) : InoOk (wfR i fs).1.k (wfR i fs).1.m (wfR i fs).1.l (wfR i fs).1.s ∧ 0 ≤ (wfR i fs).2.1 ∧ (wfR i fs).2.1 ≤ 7:=by
 unfold wfR
 cases h : wfL i fs with
 | none => exact ⟨in0_ok,by simp⟩
 | some p =>
  obtain ⟨h1,h2⟩:=wf_fold hf (st:=some (i,0)) (fun q hq => by cases hq; exact ⟨hi,.inl rfl⟩) p h
  obtain ⟨j,sum⟩:=p
  dsimp only at h1 h2 ⊢
  exact ⟨h1,by omega⟩
theorem wf1_sum {i i' : In4} {sum : Int} {f : Int × Int} : (wf1 (some (i,sum)) f).map Prod.snd = (wf1 (some (i',sum)) f).map Prod.snd:=by
 unfold wf1
 dsimp only
 repeat' split
 all_goals rfl
theorem wf_sum {fs : List (Int × Int)} : ∀ {a b : Option (In4 × Int)},a.map Prod.snd = b.map Prod.snd → (fs.foldl wf1 a).map Prod.snd = (fs.foldl wf1 b).map Prod.snd:=by
 induction fs with
 | nil => intro a b h; exact h
 | cons f fs ih =>
  intro a b h
  refine ih ?_
  cases a with
  | none =>
   cases b with
   | none => rfl
   | some q => cases h
  | some p =>
   cases b with
   | none => cases h
   | some q =>
    obtain ⟨i,m⟩:=p
    obtain ⟨i',m'⟩:=q
    simp only [Option.map_some,Option.some.injEq] at h
    subst h
    exact wf1_sum
theorem fields_ok {ino f : Int} {j : In4} (h0 : 0 ≤ ino) (h1 : ino ≤ 4294967295) (hf : 0 ≤ f ∧ f ≤ 7) (hj : InoOk j.k j.m j.l j.s) : CgOk (fieldsC (recP ino) f j.k j.m j.l j.s) :=
 ⟨recP_ok h0 h1,by simp only [fieldsC]; omega,by simp only [fieldsC]; omega,hj,by simp [fieldsC],by simp [fieldsC],pt0_ok⟩
def setF (s : Sg) (ino : Int) (F : In4 × Int) (n : In4 × Int × Bool) (j : In4) : Sg × Int :=
 if F.2 ≠ 0 then (s,F.2)
 else if (n.2.2 && inoOk n.1.k n.1.m n.1.l n.1.s) = false then (s,1)
 else if n.2.1 = 0 then (s,0)
 else if (putX s.d (fieldsC (recP ino) n.2.1 j.k j.m j.l j.s)).2 ≠ 0 then ({ s with d:=putS s.d (fieldsC (recP ino) n.2.1 j.k j.m j.l j.s) },(putX s.d (fieldsC (recP ino) n.2.1 j.k j.m j.l j.s)).2)
 else ({ s with d:=putS s.d (fieldsC (recP ino) n.2.1 j.k j.m j.l j.s),U:=addK s.U ino (kindsL n.2.1) },0)
def setR (s : Sg) (ino : Int) (fs : List (Int × Int)) : Sg × Int:=setF s ino (fdR s ino) (wfR (fdR s ino).1 fs) (wfR in0 fs).1
theorem trim_of {p : Pt} (hl : p.bytes.length = 32) (h : ∀ i,i < 32 → p.mask.testBit i = false → p.bytes.getD i 0 = 0) : trimP p = p:=by
 have hb : (trimP p).bytes = p.bytes:=ch_ext (layB_len _ _) hl fun i hi => by
  rw [trimP_get p hi]
  cases hm : p.mask.testBit i
  ·rw [h i hi hm]; rfl
  ·rfl
 obtain ⟨f,m,b⟩:=p
 unfold trimP at hb ⊢
 dsimp only at hb ⊢
 rw [hb]
theorem trim_zero {p : Pt} (h : trimP p = p) (i : Nat) (hi : i < 32) (hm : p.mask.testBit i = false) : p.bytes.getD i 0 = 0:=by
 have:=trimP_get p hi
 rw [h,hm] at this
 simpa using this
theorem trim_len {p : Pt} (h : trimP p = p) : p.bytes.length = 32:=by
 rw [← h]
 exact layB_len _ _
theorem trim_trim (p : Pt) : trimP (trimP p) = trimP p:=trim_of (layB_len _ _) fun i hi hm => by
 rw [trimP_get p hi]
 rw [show p.mask.testBit i = false from hm]
 rfl
theorem trim_join (a b : Pt) : trimP (joinP a b) = joinP a b:=by
 unfold joinP
 cases hf : b.fresh
 ·rw [if_neg (by simp)]
  refine trim_of (layB_len _ _) fun i hi hm => ?_
  dsimp only at hm ⊢
  rw [Nat.testBit_or,Bool.or_eq_false_iff] at hm
  rw [layB_get _ _ hi]
  unfold layAt
  rw [hm.2,hf]
  have:=trimP_get a hi
  rw [hm.1] at this
  simpa using this
 ·rw [if_pos rfl]
  exact trim_trim b
theorem ck_cases {c : Cg} (h : ckOk c = true) : plOk c.pl = true ∧ (if c.gone then cgEq c (goneC c.pl) else if c.pl.part = 1 then recOk c else if c.pl.part = 2 then entOk c else datOk c) = true:=by
 unfold ckOk at h
 cases hp : plOk c.pl
 ·rw [hp] at h; cases h
 ·rw [hp,if_pos rfl] at h; exact ⟨rfl,h⟩
theorem dat_trim {c : Cg} (h : datOk c = true) : trimP c.pt = c.pt ∧ c = dataC c.pl c.pt:=by
 unfold datOk at h
 have e:=cgEq_iff.1 h
 have e2 : c.pt = trimP c.pt:=congrArg Cg.pt e
 exact ⟨e2.symm,by rw [← e2] at e; exact e⟩
theorem dat_of {p : Pl} {q : Pt} (h : trimP q = q) : datOk (dataC p q) = true:=by
 unfold datOk
 refine cgEq_iff.2 ?_
 show dataC p q = dataC p (trimP q)
 rw [h]
theorem join_ck {a b : Cg} (h : (joinX a b).2 = 0) : ckOk (joinX a b).1 = true:=by
 unfold joinX at h ⊢
 cases ha : ckOk a
 ·rw [ha] at h; cases h
 cases hb : ckOk b
 ·rw [ha,hb] at h; cases h
 cases hp : plEq a.pl b.pl
 ·rw [ha,hb,hp] at h; cases h
 rw [ha,hb,hp] at h
 simp only [if_true] at h ⊢
 have epl:=plEq_iff.1 hp
 obtain ⟨pa,ca⟩:=ck_cases ha
 obtain ⟨pb,cb⟩:=ck_cases hb
 cases hg : b.gone
 ·rw [hg] at h cb
  simp only [Bool.false_eq_true,if_false] at h cb ⊢
  by_cases h1 : b.pl.part = 1
  ·rw [if_pos h1] at h ⊢
   unfold jRX at h ⊢
   cases hf : b.fresh
   ·rw [hf] at h
    simp only [Bool.false_eq_true,if_false] at h ⊢
    cases hga : a.gone
    ·rw [hga] at h
     simp only [Bool.false_eq_true,if_false] at h ⊢
     cases hr : recOk (recJ a b)
     ·rw [hr] at h; cases h
     ·simp only [if_true]
      have q1 : (recJ a b).pl = a.pl:=by unfold recJ recI; split <;> rfl
      have q2 : (recJ a b).gone = false:=by unfold recJ recI; split <;> exact hga
      unfold ckOk
      rw [q1,pa,q2]
      simp only [if_true,Bool.false_eq_true,if_false]
      rw [if_pos (by rw [epl]; exact h1)]
      exact hr
    ·rw [hga] at h; cases h
   ·simp only [if_true]; exact hb
  ·rw [if_neg h1] at h cb ⊢
   by_cases h2 : b.pl.part = 2
   ·rw [if_pos h2]; exact hb
   ·rw [if_neg h2] at cb ⊢
    obtain ⟨t1,t2⟩:=dat_trim cb
    have hok : ∀ q : Pt,trimP q = q → ckOk (dataC b.pl q) = true:=fun q hq => by
     unfold ckOk
     rw [show (dataC b.pl q).pl = b.pl from rfl,pb,show (dataC b.pl q).gone = false from rfl]
     simp only [if_true,Bool.false_eq_true,if_false]
     rw [if_neg h1,if_neg h2]
     exact dat_of hq
    unfold jDX
    cases hga : a.gone
    ·simp only [Bool.false_eq_true,if_false]
     unfold joC
     rw [t2]
     exact hok _ (trim_join a.pt b.pt)
    ·simp only [if_true]
     have e : frP b = dataC b.pl ⟨true,b.pt.mask,b.pt.bytes⟩:=(congrArg frP t2).trans rfl
     rw [e]
     exact hok _ (trim_of (p:=⟨true,b.pt.mask,b.pt.bytes⟩) (show b.pt.bytes.length = 32 from trim_len t1) fun i hi hm => trim_zero (p:=b.pt) t1 i hi hm)
 ·simp only [if_true]; exact hb
def CksOk (s : Dl) : Prop:=∀ c ∈ s.L,ckOk c = true
theorem CksOk.put {s : Dl} (hs : CksOk s) (c : Cg) : CksOk (putS s c):=by
 by_cases h0 : (putX s c).2 = 0
 ·unfold putS
  rw [if_pos h0]
  intro x hx
  rcases setL_mem.1 hx with rfl | ⟨hx,_⟩
  ·unfold putX behX at h0 ⊢
   cases hc : ckOk c
   ·rw [hc] at h0; cases h0
   ·rw [hc] at h0
    simp only [if_true] at h0 ⊢
    cases hi : isX s c.pl
    ·rw [hi] at h0
     simp only [Bool.false_eq_true,if_false] at h0 ⊢
     split at h0
     ·cases h0
     ·rename_i hm
      rw [if_neg hm]; exact hc
    ·rw [hi] at h0
     simp only [if_true] at h0 ⊢
     exact join_ck h0
  ·exact hs x hx
 ·unfold putS
  rw [if_neg h0]
  exact hs
theorem CksOk.names {s : Dl} (hs : CksOk s) : ∀ c ∈ s.L,c.pl.name.size ≤ 8:=fun c hc => plOk_size (ck_cases (hs c hc)).1
def refW (x : It) (is : Bool) (c : Cg) : It × Bool × Int :=
 if c.gone then (it0,false,0) else if c.pl.part = 2 then (leadI c,true,0) else if c.pl.part = 3 then (laidI x c,true,0) else if c.fresh then (freshI c,true,0) else if is then (⟨x.kind,wM c x.mode,wL c x.links,wS c x.size,x.lead,x.bytes⟩,true,0) else (it0,false,3)
def refA (c : Cg) : Bool:=c.gone || c.fresh || c.pl.part == 2 || c.pt.fresh
def refT (l : List (ByteArray × ByteArray)) (p : Pl) (c : Cg) (ch : Bool) : It × Bool × Int :=
 if ch then (if refA c then refW it0 false c else if stE l p ≠ 0 then (it0,false,stE l p) else refW (stI l p) (stB l p) c) else (stI l p,stB l p,stE l p)
theorem stI_one {l : List (ByteArray × ByteArray)} {q : Pl} (h1 : q.part = 1) : (stI l q).lead = 0 ∧ (stI l q).bytes = zeroC:=by
 unfold stI
 cases stB l q
 ·exact ⟨rfl,rfl⟩
 ·rw [if_pos rfl]
  unfold decI
  split
  ·rw [h1,rdI_1]; exact ⟨rfl,rfl⟩
  ·exact ⟨rfl,rfl⟩
theorem ch_ref (l : List (ByteArray × ByteArray)) (c : Cg) (h : ckOk c = true) : chL l c = refT l c.pl c true:=by
 obtain ⟨hp,hc⟩:=ck_cases h
 unfold chL chR refT refW refA
 rw [if_pos rfl]
 cases hg : c.gone
 ·rw [hg] at hc
  simp only [Bool.false_eq_true,if_false,Bool.false_or] at hc ⊢
  by_cases h1 : c.pl.part = 1
  ·rw [if_pos h1] at hc
   have n2 : ¬ c.pl.part = 2:=by omega
   have n3 : ¬ c.pl.part = 3:=by omega
   have b2 : (c.pl.part == 2) = false:=by simp [n2]
   unfold recOk at hc
   cases hf : c.fresh
   ·rw [hf] at hc
    simp only [Bool.false_eq_true,if_false] at hc
    have hpt : c.pt.fresh = false:=by
     unfold fieldsOk at hc
     split at hc
     ·cases hc
     ·split at hc
      ·cases hc
      ·have e:=cgEq_iff.1 (Bool.and_eq_true_iff.1 hc).1
       rw [e]; rfl
    obtain ⟨e1,e2⟩:=stI_one (l:=l) h1
    by_cases he : stE l c.pl = 0
    ·cases hB : stB l c.pl
     ·simp [hpt,n2,n3,he]
     ·simp [hpt,n2,n3,he,withI,e1,e2]
    ·simp [hpt,n2,n3,he]
   ·simp only [if_true,Bool.true_or]
    rw [if_neg n2,if_neg n3]
  ·rw [if_neg h1] at hc
   by_cases h2 : c.pl.part = 2
   ·rw [if_pos h2] at hc
    unfold entOk at hc
    have e:=cgEq_iff.1 (Bool.and_eq_true_iff.1 hc).1
    have hf : c.fresh = false:=by rw [e]; rfl
    have b2 : (c.pl.part == 2) = true:=by simp [h2]
    rw [hf,b2,if_pos h2,if_pos h2]
    simp only [Bool.false_eq_true,if_false,Bool.true_or,if_true,Bool.or_true]
   ·rw [if_neg h2] at hc
    obtain ⟨t1,t2⟩:=dat_trim hc
    have hf : c.fresh = false:=by rw [t2]; rfl
    have h3 : c.pl.part = 3:=by rcases plOk_part hp with e | e | e <;> omega
    have b2 : (c.pl.part == 2) = false:=by simp [h2]
    cases hpf : c.pt.fresh
    ·by_cases he : stE l c.pl = 0
     ·simp [hf,h3,he]
     ·simp [hf,h3,he]
    ·simp [hf,h3]
 ·simp only [if_true,Bool.true_or]
structure Bd (i : In4) : Prop where
 k0 : 0 ≤ i.k
 k1 : i.k ≤ 2
 m0 : 0 ≤ i.m
 m1 : i.m ≤ 511
 l0 : 0 ≤ i.l
 l1 : i.l ≤ 15
 s0 : 0 ≤ i.s
 s1 : i.s ≤ 512
theorem bd0 : Bd in0:=⟨by decide,by decide,by decide,by decide,by decide,by decide,by decide,by decide⟩
theorem Bd.ok {i : In4} (h : Bd i) : InoOk i.k i.m i.l i.s:=by
 obtain ⟨h1,h2,h3,h4,h5,h6,h7,h8⟩:=h
 constructor <;> omega
theorem ino_iff {k m l s : Int} : inoOk k m l s = true ↔ (0 ≤ m ∧ m ≤ 511) ∧ ((k = 1 ∧ 1 ≤ l ∧ l ≤ 15 ∧ 0 ≤ s ∧ s ≤ 512) ∨ (k = 2 ∧ l = 1 ∧ s = 0)):=by
 unfold inoOk inB
 by_cases h1 : k = 1
 ·subst h1; simp; omega
 ·by_cases h2 : k = 2
  ·subst h2; simp
  ·simp [h1,h2]
theorem bd_ok {k m l s : Int} (h : inoOk k m l s = true) : Bd ⟨k,m,l,s⟩:=by
 obtain ⟨⟨h1,h2⟩,h3⟩:=ino_iff.1 h
 rcases h3 with ⟨rfl,a,b,c,d⟩ | ⟨rfl,rfl,rfl⟩
 ·exact ⟨by dsimp only; omega,by dsimp only; omega,h1,h2,by dsimp only; omega,b,c,d⟩
 ·exact ⟨by dsimp only; omega,by dsimp only; omega,h1,h2,by dsimp only; omega,by dsimp only; omega,by dsimp only; omega,by dsimp only; omega⟩
def i4 (x : It) : In4:=⟨x.kind,x.mode,x.links,x.size⟩
theorem bd_it0 : Bd (i4 it0):=⟨by decide,by decide,by decide,by decide,by decide,by decide,by decide,by decide⟩
theorem st_ok {l : List (ByteArray × ByteArray)} {q : Pl} (h1 : q.part = 1) (h : stB l q = true) : inoOk (stI l q).kind (stI l q).mode (stI l q).links (stI l q).size = true:=by
 have hI : stI l q = decI q.part (valS l (keyS q)):=by unfold stI; rw [if_pos h]
 unfold stB at h
 simp only [Bool.and_eq_true,decide_eq_true_eq] at h
 obtain ⟨_,hd⟩:=h
 rw [hI]
 unfold decI
 rw [if_pos hd]
 unfold decE at hd
 split at hd
 ·cases hd
 ·split at hd
  ·rename_i ho
   unfold decOk at ho
   rw [Bool.and_eq_true,h1] at ho
   rw [h1]
   exact ho.2
  ·cases hd
theorem bd_st (l : List (ByteArray × ByteArray)) {q : Pl} (h1 : q.part = 1) : Bd (i4 (stI l q)):=by
 cases h : stB l q with
 | true => exact bd_ok (st_ok h1 h)
 | false => unfold stI; rw [h]; exact bd_it0
theorem bd_with {x : It} (hx : Bd (i4 x)) {c : Cg} (hc : fieldsOk c = true) : Bd (i4 (withI x c)):=by
 unfold fieldsOk at hc
 split at hc
 ·cases hc
 split at hc
 ·cases hc
 rw [Bool.and_eq_true] at hc
 obtain ⟨⟨a1,a2⟩,h3⟩:=ino_iff.1 hc.2
 have h3' : 1 ≤ wL c 1 ∧ wL c 1 ≤ 15 ∧ 0 ≤ wS c 0 ∧ wS c 0 ≤ 512:=by
  rcases h3 with ⟨_,h⟩ | ⟨h,_⟩
  ·exact h
  ·cases h
 clear h3 hc
 obtain ⟨b1,b2,b3,b4⟩:=h3'
 obtain ⟨x1,x2,x3,x4,x5,x6,x7,x8⟩:=hx
 unfold i4 at *
 unfold withI
 dsimp only at *
 unfold wM at a1 a2
 unfold wL at b1 b2
 unfold wS at b3 b4
 unfold wM wL wS
 refine ⟨x1,x2,?_,?_,?_,?_,?_,?_⟩ <;> dsimp only
 ·split
  ·rename_i hb; rw [if_pos hb] at a1; exact a1
  ·exact x3
 ·split
  ·rename_i hb; rw [if_pos hb] at a2; exact a2
  ·exact x4
 ·split
  ·rename_i hb; rw [if_pos hb] at b1; omega
  ·exact x5
 ·split
  ·rename_i hb; rw [if_pos hb] at b2; omega
  ·exact x6
 ·split
  ·rename_i hb; rw [if_pos hb] at b3; omega
  ·exact x7
 ·split
  ·rename_i hb; rw [if_pos hb] at b4; omega
  ·exact x8
theorem is_ck {d : Dl} (hc : CksOk d) {q : Pl} (h : isX d q = true) : ckOk (wasX d q) = true:=by
 unfold isX at h
 unfold wasX
 cases hg : getL d.L q with
 | none => rw [hg] at h; cases h
 | some c => exact hc c (List.mem_of_find?_eq_some hg)
theorem vg_bd (l : List (ByteArray × ByteArray)) {d : Dl} (hd : DlOk d) (hc : CksOk d) {q : Pl} (h1 : q.part = 1) : Bd (i4 (vgR l d q).1):=by
 unfold vgR
 cases hx : isX d q with
 | false => exact bd_st l h1
 | true =>
  rw [if_pos rfl]
  have hp:=was_pl hd hx
  obtain ⟨_,hk⟩:=ck_cases (is_ck hc hx)
  generalize wasX d q = c at *
  rw [hp,h1] at hk
  unfold chL chR
  cases hg : c.gone with
  | true => exact bd_it0
  | false =>
   rw [hg] at hk
   simp only [Bool.false_eq_true,if_false,if_true] at hk ⊢
   unfold recOk at hk
   cases hf : c.fresh with
   | true =>
    rw [hf] at hk
    simp only [if_true,Bool.and_eq_true] at hk ⊢
    exact bd_ok hk.2
   | false =>
    rw [hf] at hk
    simp only [Bool.false_eq_true,if_false] at hk ⊢
    rw [hp,h1]
    rw [if_neg (by decide)]
    split
    ·exact bd_it0
    split
    ·exact bd_it0
    split
    ·exact bd_it0
    split
    ·exact bd_with (bd_st l h1) hk
    ·exact bd_it0
theorem fd_bd {s : Sg} (hd : DlOk s.d) (hc : CksOk s.d) (ino : Int) : Bd (fdR s ino).1:=by
 have h:=vg_bd s.l hd hc (q:=recP ino) rfl
 unfold fdR fdF
 split
 ·exact bd0
 split
 ·exact bd0
 split
 ·exact h
 ·exact bd0
theorem put_len (d : Dl) (c : Cg) : (putS d c).L.length ≤ d.L.length + 1 ∧ (putS d c).pus.length ≤ d.pus.length + 1:=by
 unfold putS
 split
 ·exact ⟨setL_len _ _,by simp⟩
 ·exact ⟨by omega,by omega⟩
structure Sk (s : Sg) (n : Nat) : Prop where
 ck : CksOk s.d
 L : s.d.L.length ≤ n
 P : s.d.pus.length ≤ n
 R : s.R.length ≤ n
 U : s.U.length ≤ n
theorem Sk.mono {s : Sg} {n m : Nat} (h : Sk s n) (hm : n ≤ m) : Sk s m:=⟨h.ck,Nat.le_trans h.L hm,Nat.le_trans h.P hm,Nat.le_trans h.R hm,Nat.le_trans h.U hm⟩
theorem Sk.put {s : Sg} {n : Nat} (h : Sk s n) (c : Cg) : Sk { s with d:=putS s.d c } (n + 1):=by
 obtain ⟨h1,h2⟩:=put_len s.d c
 have:=h.L
 have:=h.P
 exact ⟨h.ck.put c,by dsimp only; omega,by dsimp only; omega,Nat.le_succ_of_le h.R,Nat.le_succ_of_le h.U⟩
theorem Sk.read {s : Sg} {n : Nat} (h : Sk s n) (ino : Int) (ks : List Int) : Sk { s with R:=addK s.R ino ks } (n + ks.length):=by
 have:=addK_len s.R ino ks
 have:=h.R
 exact ⟨h.ck,Nat.le_trans h.L (by omega),Nat.le_trans h.P (by omega),by dsimp only; omega,Nat.le_trans h.U (by omega)⟩
theorem Sk.wrote {s : Sg} {n : Nat} (h : Sk s n) (ino : Int) (ks : List Int) : Sk { s with U:=addK s.U ino ks } (n + ks.length):=by
 have:=addK_len s.U ino ks
 have:=h.U
 exact ⟨h.ck,Nat.le_trans h.L (by omega),Nat.le_trans h.P (by omega),Nat.le_trans h.R (by omega),by dsimp only; omega⟩
theorem Sk.set {s : Sg} {n : Nat} (h : Sk s n) (ino : Int) (fs : List (Int × Int)) : Sk (setR s ino fs).1 (n + 4):=by
 unfold setR setF
 split
 ·exact h.mono (by omega)
 split
 ·exact h.mono (by omega)
 split
 ·exact h.mono (by omega)
 split
 ·exact (h.put _).mono (by omega)
 ·exact (Sk.wrote (h.put _) ino _).mono (by have:=kindsL_len (wfR (fdR s ino).1 fs).2.1; omega)
theorem sg_ok {B : Nat} {w : World} {a : Sa} {X : List Nat} {s : Sg} (h : SgIn B w a X s) : DlOk s.d:=by
 obtain ⟨vd,vr,vu,h,rfl⟩:=h
 exact h.d.ok
open Go.RowKit Go.Maps
theorem set_in {B : Nat} {w : World} {a : Sa} {X : List Nat} {s : Sg} (h : SgIn B w a X s) (ino : Int) (h0 : 0 ≤ ino) (h1 : ino ≤ 4294967295) (fa : Option Addr) (fn fc : Nat) (fs : List (Int × Int)) (hr : RdZ 2 fiE w (.slice fa fn fc) fs) (hn : fn ≤ 1000) (hf : fiOk fs)
  (hL : s.d.L.length ≤ 5000) (hP : s.d.pus.length ≤ 5000) (hU : s.U.length ≤ 18000) : Calls Tryz.prog 64 #[.pointer (some ⟨a.s,0,none⟩),.int .u32 ino,.slice fa fn fc] w fun e w' =>
  e = .returned (.int .i64 (setR s ino fs).2) ∧ SgOut B w a X (setR s ino fs).1 w':=by
 have cf:=find_in h ino h0 h1
 have hwf : ∀ (W : World) (i : In4),Below w.heap.size w W → Calls Tryz.prog 81 #[inV i,.slice fa fn fc] W fun e w' => e = .returned (.tuple #[inV (wfR i fs).1,.int .i64 (wfR i fs).2.1,.bool (wfR i fs).2.2]) ∧ Below W.heap.size W w':=fun W i hW => wf_any W i fa fn fc fs (hr.below hW) hn
 obtain ⟨hjo,hj0,hj7⟩:=wfR_ok hf in0_ok
 have hsums : ∀ i,(wfR i fs).2.2 = true → (wfR i fs).2.1 = (wfR in0 fs).2.1:=by
  intro i hi
  have e:=wf_sum (fs:=fs) (a:=some (i,0)) (b:=some (in0,0)) rfl
  unfold wfR wfL at *
  cases h1 : fs.foldl wf1 (some (i,0)) with
  | none => rw [h1] at hi; cases hi
  | some p =>
   cases h2 : fs.foldl wf1 (some (in0,0)) with
   | none => rw [h1,h2] at e; cases e
   | some q => rw [h1,h2] at e; simp only [Option.map_some,Option.some.injEq] at e; exact e
 have cw:=fun W hW => hwf W (fdR s ino).1 hW
 have cz:=fun W hW => hwf W in0 hW
 have hsum:=hsums (fdR s ino).1
 have HF : Hid (setF s ino (fdR s ino) (wfR (fdR s ino).1 fs) (wfR in0 fs).1 = setR s ino fs):=rfl
 clear hwf hsums
 generalize setR s ino fs = R at *
 generalize wfR in0 fs = J at *
 generalize wfR (fdR s ino).1 fs = N at *
 generalize fdR s ino = F at *
 obtain ⟨⟨jk,jm,jl,jz⟩,jsum,jmay⟩:=J
 obtain ⟨⟨nk,nm,nl,nz⟩,sum,may⟩:=N
 obtain ⟨⟨fk,fm,fl,fz⟩,fe⟩:=F
 unfold inV at cf cw cz
 dsimp only [in0] at cf cw cz HF hjo hj0 hj7 hsum
 have HJ : Hid (InoOk jk jm jl jz):=hjo
 have HSUM : Hid (may = true → sum = jsum):=hsum
 have HJ7 : Hid (0 ≤ jsum ∧ jsum ≤ 7):=⟨hj0,hj7⟩
 have HH : Hid (SgIn B w a X s):=h
 have HX : Hid (∀ k ∈ X,k < w.heap.size):=h.lt
 have HL : Hid (s.d.L.length ≤ 5000 ∧ s.d.pus.length ≤ 5000 ∧ s.U.length ≤ 18000):=⟨hL,hP,hU⟩
 have hz : ∀ W : World,(zeroValue 41).run Tryz.prog W = .ok (.agg #[.int .i64 0,.int .i64 0,.int .i64 0,.int .i64 0]) W:=fun W => by kernel_rfl
 clear h hr hjo hj0 hj7 hsum hL hP hU hz
 go_enter Tryz.func64,Tryz.ntmps64
 go_wp2_with fail
 refine cf.mono ?_
 rintro e w1 ⟨rfl,hb1⟩
 clear cf
 have hb2:=bel1 w1 (.cells #[.int .i64 fk,.int .i64 fm,.int .i64 fl,.int .i64 fz] 41)
 have hi2 : InRow (w1.alloc (.cells #[.int .i64 fk,.int .i64 fm,.int .i64 fl,.int .i64 fz] 41)) w1.heap.size fk fm fl fz:=⟨heap_alloc_new w1 _⟩
 obtain ⟨w2,hw2⟩ : ∃ w2,w1.alloc (.cells #[.int .i64 fk,.int .i64 fm,.int .i64 fl,.int .i64 fz] 41) = w2:=⟨_,rfl⟩
 rw [hw2] at hb2 hi2
 have hB2:=thenB hb1 hb2
 have HB2 : Hid (Below w.heap.size w w2):=hB2
 by_cases he : fe = 0
 case neg =>
  have heb : (fe != 0) = true:=by simpa using he
  have HE : Hid (R = (s,fe)):=by unfold Hid; rw [← HF.out]; unfold setF; rw [if_pos he]
  clear HF cw cz hi2
  go_wp2
  go_ret
  exact ⟨by rw [HE.out]; first | done | rfl,by rw [HE.out]; exact HH.out.out HB2.out⟩
 subst he
 have cw2:=cw w2 hB2
 have l2 : Hid _:=hi2.load
 clear cw hi2
 go_wp2_with (refine wpList_loadG rfl 41 _ rfl _ rfl _ l2.out ?_)
 refine cw2.mono ?_
 rintro e w3 ⟨rfl,hb3⟩
 clear cw2 l2
 have hb4:=bel1 w3 (.cells #[.int .i64 nk,.int .i64 nm,.int .i64 nl,.int .i64 nz] 41)
 have hi4 : InRow (w3.alloc (.cells #[.int .i64 nk,.int .i64 nm,.int .i64 nl,.int .i64 nz] 41)) w3.heap.size nk nm nl nz:=⟨heap_alloc_new w3 _⟩
 obtain ⟨w4,hw4⟩ : ∃ w4,w3.alloc (.cells #[.int .i64 nk,.int .i64 nm,.int .i64 nl,.int .i64 nz] 41) = w4:=⟨_,rfl⟩
 rw [hw4] at hb4 hi4
 have hB4:=thenB hB2 (thenB hb3 hb4)
 have HB4 : Hid (Below w.heap.size w w4):=hB4
 clear hb1 hb2 hB2 HB2 hb3 hb4
 cases may with
 | false =>
  have HE : Hid (R = (s,1)):=by unfold Hid; rw [← HF.out]; unfold setF; rfl
  clear HF cz hi4
  go_wp2
  go_ret
  exact ⟨by rw [HE.out]; first | done | rfl,by rw [HE.out]; exact HH.out.out HB4.out⟩
 | true =>
 have hss:=HSUM.out rfl
 subst hss
 have cc:=checkInode_any w4 nk nm nl nz
 have l4 : Hid _:=hi4.load
 clear hi4
 go_wp2_with (refine wpList_loadG rfl 41 _ rfl _ rfl _ l4.out ?_)
 refine cc.mono ?_
 rintro e w5 ⟨rfl,hb5⟩
 clear cc l4
 have hB5:=thenB hB4 hb5
 have HB5 : Hid (Below w.heap.size w w5):=hB5
 cases hok : inoOk nk nm nl nz with
 | false =>
  have HE : Hid (R = (s,1)):=by unfold Hid; rw [← HF.out]; unfold setF; dsimp only; rw [if_neg (by simp),hok]; rfl
  rw [inoE_11 hok]
  clear HF cz
  go_wp2
  go_ret
  exact ⟨by rw [HE.out]; first | done | rfl,by rw [HE.out]; exact HH.out.out HB5.out⟩
 | true =>
 rw [inoE_0 hok]
 by_cases h00 : sum = 0
 ·subst h00
  have HE : Hid (R = (s,0)):=by unfold Hid; rw [← HF.out]; unfold setF; dsimp only; rw [if_neg (by simp),hok]; rfl
  clear HF cz
  go_wp2
  go_ret
  exact ⟨by rw [HE.out]; first | done | rfl,by rw [HE.out]; exact HH.out.out HB5.out⟩
 have hsb : (sum == 0) = false:=by simpa using h00
 have HE0 : Hid ((if (putX s.d (fieldsC (recP ino) sum jk jm jl jz)).2 ≠ 0 then ({ s with d:=putS s.d (fieldsC (recP ino) sum jk jm jl jz) },(putX s.d (fieldsC (recP ino) sum jk jm jl jz)).2) else ({ s with d:=putS s.d (fieldsC (recP ino) sum jk jm jl jz),U:=addK s.U ino (kindsL sum) },0)) = R):=by
  have:=HF.out; unfold setF at this; dsimp only at this; rw [if_neg (by simp),hok,if_neg (by simp),if_neg h00] at this; exact this
 have hcg : CgOk (fieldsC (recP ino) sum jk jm jl jz):=fields_ok (j:=⟨jk,jm,jl,jz⟩) h0 h1 HJ7.out HJ.out
 have HCG : Hid (CgOk (fieldsC (recP ino) sum jk jm jl jz)):=hcg
 have cz5:=cz w5 hB5
 clear HF cz hcg HSUM hok h00 hB4 HB4
 go_wp2_with fail
 refine cz5.mono ?_
 rintro e w6 ⟨rfl,hb6⟩
 clear cz5
 have hb7:=bel1 w6 (.cells #[.int .i64 jk,.int .i64 jm,.int .i64 jl,.int .i64 jz] 41)
 have hi7 : InRow (w6.alloc (.cells #[.int .i64 jk,.int .i64 jm,.int .i64 jl,.int .i64 jz] 41)) w6.heap.size jk jm jl jz:=⟨heap_alloc_new w6 _⟩
 obtain ⟨w7,hw7⟩ : ∃ w7,w6.alloc (.cells #[.int .i64 jk,.int .i64 jm,.int .i64 jl,.int .i64 jz] 41) = w7:=⟨_,rfl⟩
 rw [hw7] at hb7 hi7
 have hB7:=thenB hB5 (thenB hb6 hb7)
 have HB7 : Hid (Below w.heap.size w w7):=hB7
 have HG : Hid (w.heap.size ≤ w6.heap.size):=(thenB hB5 hb6).size
 have hs7:=(HH.out.below hB7)
 have HS7 : Hid (SgIn B w7.drew a X s):=hs7.drew
 have hS0 : SRow w7.drew a ∧ InRow w7.drew w6.heap.size jk jm jl jz:=⟨HS7.out.row,⟨hi7.row⟩⟩
 have lJ : ∀ W,(SRow W a ∧ InRow W w6.heap.size jk jm jl jz) → (Instr.loadAt 41 (.pointer (some ⟨w6.heap.size,0,none⟩))).run Tryz.prog W = .ok (.agg #[.int .i64 jk,.int .i64 jm,.int .i64 jl,.int .i64 jz]) W:=fun W h => h.2.load
 clear hb6 hb7 hB5 HB5 hi7 hs7 hB7
 go_wp2_with fail
 refine wp_region_noPanic ?_
 refine wp_region_held_drew (S:=fun W => SRow W a ∧ InRow W w6.heap.size jk jm jl jz) (by kernel_rfl) hS0 (fun hHeld => ?_)
 refine tk 0 (.pointer (some ⟨a.s,0,none⟩)) rfl ?_
 try simp only [nz]
 refine tk 1 (.pointer (some ⟨a.s,0,none⟩)) rfl ?_
 try simp only [nz]
 refine tk 2 (.pointer (some ⟨a.s,0,none⟩)) rfl ?_
 try simp only [nz]
 refine tk 3 (.pointer (some ⟨a.v,0,none⟩)) rfl ?_ (fun W hSw => by (try dsimp only at hSw); (have z:=hSw.1.c0; go_simp))
 try simp only [nz]
 refine tk 4 (.int .u32 ino) rfl ?_
 try simp only [nz]
 refine tk 6 (.int .i64 sum) rfl ?_
 try simp only [nz]
 refine wpAnyH_take (i:=7) (v:=.agg #[.int .i64 jk,.int .i64 jm,.int .i64 jl,.int .i64 jz]) rfl (by kernel_rfl) (by kernel_rfl) (by kernel_rfl) (fun _ _ _ h => h) (yields_load (by rfl) _ _ rfl _ rfl _ lJ) (by assumption) ?_
 try simp only [nz]
 have cr:=irec_any w7.drew ino
 refine rd 5 rfl (fun K hK => ?_)
 go_simp
 go_wp2_with (go_at_call 58; refine cr.mono ?_; rintro e w8 ⟨rfl,hb8⟩)
 refine hK.out _ _ ⟨hHeld.1.below hb8,hHeld.2.below hb8⟩ (fun hHeld2 => ?_)
 clear hK K cr
 try simp only [nz]
 refine wpAnyH_take (i:=8) (v:=.agg (cgC (fieldsC (recP ino) sum jk jm jl jz))) rfl (by kernel_rfl) (by kernel_rfl) (by kernel_rfl) (fun _ _ _ h => h) (yields_build (by rfl) 114 _ rfl [(0,plV (recP ino)),(3,.int .i64 sum),(4,.agg #[.int .i64 jk,.int .i64 jm,.int .i64 jl,.int .i64 jz])] (by kernel_rfl) _ (bt_fields (recP ino) sum jk jm jl jz)) (by assumption) ?_
 try simp only [nz]
 have cp:=(HS7.out.below hb8).put (fieldsC (recP ino) sum jk jm jl jz) HCG.out HL.out.1 HL.out.2.1
 refine rd 9 rfl (fun K hK => ?_)
 go_simp
 go_wp2_with (go_at_call 69; refine cp.mono ?_; rintro e w9 ⟨rfl,ho9⟩)
 have HO9 : Hid (SgOut B w a X { s with d:=putS s.d (fieldsC (recP ino) sum jk jm jl jz) } w9):=SgOut.pre (HB7.out.drew.trans (hb8.mono (Nat.le_trans HB7.out.size (Nat.le_refl _)))) ho9
 refine hK.out _ _ ⟨ho9.srow,hHeld2.2.sole ho9.sole (fun e => by have:=HX.out _ e; have:=HG.out; omega)⟩ (fun hHeld3 => ?_)
 clear hK K cp
 try simp only [nz]
 refine tk 10 (.int .i64 (putX s.d (fieldsC (recP ino) sum jk jm jl jz)).2) rfl ?_
 try simp only [nz]
 refine wpAnyH_done (by kernel_rfl) ?_ _
 refine NoPanic.normal ?_
 clear hHeld hHeld2 hHeld3 ho9 hb8 lJ hS0 HS7 HB7 HCG
 generalize putX s.d (fieldsC (recP ino) sum jk jm jl jz) = PX at *
 generalize putS s.d (fieldsC (recP ino) sum jk jm jl jz) = PS at *
 obtain ⟨pc,pe⟩:=PX
 dsimp only at HE0 ⊢
 by_cases hpe : pe = 0
 case neg =>
  have hpb : (pe != 0) = true:=by simpa using hpe
  have HE : Hid (R = ({ s with d:=PS },pe)):=by unfold Hid; rw [← HE0.out,if_pos hpe]
  clear HE0
  go_wp2
  go_ret
  exact ⟨by rw [HE.out]; first | done | rfl,by rw [HE.out]; exact HO9.out⟩
 subst hpe
 have HE : Hid (R = ({ s with d:=PS,U:=addK s.U ino (kindsL sum) },0)):=by unfold Hid; rw [← HE0.out,if_neg (by simp)]
 clear HE0
 obtain ⟨X9,hx1,hx2,hx3⟩:=HO9.out
 have HX1 : Hid (SgIn B w9.drew a X9 { s with d:=PS }):=hx1.drew
 have hS9 : SRow w9.drew a:=HX1.out.row
 clear hx1
 go_wp2_with fail
 refine wp_region_noPanic ?_
 refine wp_region_held_drew (S:=fun W => SRow W a) (by kernel_rfl) hS9 (fun hHeld => ?_)
 refine tk 0 (.pointer (some ⟨a.s,0,none⟩)) rfl ?_
 try simp only [nz]
 refine tk 1 (.pointer (some ⟨a.s,0,none⟩)) rfl ?_
 try simp only [nz]
 refine tk 2 (.pointer (some ⟨a.s,2,none⟩)) rfl ?_
 try simp only [nz]
 refine tk 3 (.pointer (some ⟨a.u,0,none⟩)) rfl ?_ (fun W hSw => by (try dsimp only at hSw); (have z:=SRow.c2 hSw; go_simp))
 try simp only [nz]
 refine tk 4 (.int .u32 ino) rfl ?_
 try simp only [nz]
 refine tk 5 (.int .i64 sum) rfl ?_
 try simp only [nz]
 have ck:=kindsOf_any w9.drew sum
 refine rd 6 rfl (fun K hK => ?_)
 go_simp
 go_wp2_with (go_at_call 82; refine ck.mono ?_; rintro e w10 ⟨ka,kc,rfl,hko,hb10⟩)
 refine hK.out _ _ (SRow.below hHeld hb10) (fun hHeld2 => ?_)
 clear hK K ck
 try simp only [nz]
 have ct:=(HX1.out.below hb10).touchU ino h0 h1 _ _ _ _ (rdKs_own hko) (kindsL_ok sum) (Nat.le_trans (kindsL_len sum) (by decide)) HL.out.2.2
 refine rd 7 rfl (fun K hK => ?_)
 go_simp
 go_wp2_with (go_at_call 29; refine ct.mono ?_; rintro e w11 ⟨rfl,ho11⟩)
 have HO11 : Hid (SgOut B w a X { s with d:=PS,U:=addK s.U ino (kindsL sum) } w11):=SgOut.then hx2 hx3 (SgOut.pre (w1:=w10) ((Below.refl _ w9).drew.trans (hb10.mono (Nat.le_refl _))) ho11)
 refine hK.out _ _ ho11.srow (fun hHeld3 => ?_)
 clear hK K ct
 try simp only [nz]
 refine wpAnyH_done (by kernel_rfl) ?_ _
 refine NoPanic.normal ?_
 clear hHeld hHeld2 hHeld3 ho11 hb10 hko HX1 hS9 hx2 hx3
 go_wp2
 go_ret
 exact ⟨by rw [HE.out]; first | done | rfl,by rw [HE.out]; exact HO11.out⟩
open Go.RowKit Go.Maps
def sizeR (s : Sg) (ino : Int) : Sg × Int × Int:=if (fdR s ino).2 ≠ 0 then (s,0,(fdR s ino).2) else ({ s with R:=addK s.R ino [3] },(fdR s ino).1.s,0)
def goneE (s : Sg) (p : Pl) : Int:=(putX s.d (goneC p)).2
def gone1 (s : Sg) (p : Pl) : Sg:={ s with d:=putS s.d (goneC p) }
def goneL : Sg → List Pl → Sg × Int
 | s,[] => (s,0)
 | s,p :: ps => if goneE s p ≠ 0 then (gone1 s p,goneE s p) else goneL (gone1 s p) ps
def rmB (s : Sg) (ino : Int) (i : In4) : Sg:=if i.k = 1 then { s with R:=addK s.R ino [3] } else s
def rmE (g : Sg × Int) (ino : Int) : Sg × Int:=if g.2 ≠ 0 then g else ({ g.1 with U:=addK g.1.U ino [7] },0)
def rmF (s : Sg) (ino : Int) (F : In4 × Int) : Sg × Int:=if F.2 ≠ 0 then (s,F.2) else rmE (goneL (rmB s ino F.1) (placesL ino F.1)) ino
def rmR (s : Sg) (ino : Int) : Sg × Int:=rmF s ino (fdR s ino)
theorem gone_ok {p : Pl} (h : PlOk p) : CgOk (goneC p):=⟨h,by simp only [goneC]; omega,by simp only [goneC]; omega,by constructor <;> (simp only [goneC]; omega),by simp [goneC],by simp [goneC],pt0_ok⟩
theorem datP_ok {ino : Int} (h0 : 0 ≤ ino) (h1 : ino ≤ 4294967295) {c : Nat} (hc : c ≤ 4294967295) : PlOk (datP ino c):=⟨h0,h1,by simp [datP],by simp [datP],Nat.zero_le _,by simp only [datP]; omega,by simp only [datP]; omega⟩
theorem placesL_ok {ino : Int} (h0 : 0 ≤ ino) (h1 : ino ≤ 4294967295) {i : In4} (hs : i.s ≤ 512) : ∀ p ∈ placesL ino i,PlOk p:=by
 intro p hp
 unfold placesL chunksL at hp
 rcases List.mem_cons.1 hp with rfl | hp
 ·exact recP_ok h0 h1
 ·obtain ⟨k,hk,rfl⟩:=List.mem_map.1 hp
  rw [List.mem_range] at hk
  refine datP_ok h0 h1 ?_
  split at hk <;> omega
theorem placesL_len {ino : Int} {i : In4} (hs : i.s ≤ 512) : (placesL ino i).length ≤ 17:=by
 unfold placesL
 rw [chunksL_len]
 split <;> omega
theorem placesL_pos (ino : Int) (i : In4) : 0 < (placesL ino i).length:=by
 unfold placesL
 rw [chunksL_len]
 omega
theorem RdZ.sole {α : Type} {k : Nat} {enc : α → List Value} {w w' : World} {X : List Nat} {b off n c : Nat} {l : List α} (h : RdZ k enc w (.slice (some ⟨b,off,none⟩) n c) l) (hs : Sole X w w') (hb : b ∉ X) : RdZ k enc w' (.slice (some ⟨b,off,none⟩) n c) l:=by
 obtain ⟨⟨a,cap,e,h1,h2,h3⟩,h4⟩:=h
 simp only [Value.slice.injEq] at e
 obtain ⟨rfl,rfl,rfl⟩:=e
 refine ⟨⟨_,_,rfl,h1,h2,fun hn => ?_⟩,h4⟩
 obtain ⟨b',off',e',hlt,hc⟩:=h3 hn
 simp only [Option.some.injEq,Addr.mk.injEq] at e'
 obtain ⟨rfl,rfl,_⟩:=e'
 refine ⟨_,_,rfl,Nat.lt_of_lt_of_le hlt hs.size,fun i x j u hi hj => ?_⟩
 have:=hs.block _ hlt hb
 simpa [World.cell?,this] using hc i x j u hi hj
theorem pl_cells {w : World} {b off n c : Nat} {l : List Pl} (h : RdZ 4 plE4 w (.slice (some ⟨b,off,none⟩) n c) l) {i : Nat} {p : Pl} (hx : l[i]? = some p) :
  w.cell? ⟨b,off + i * 4,none⟩ = some (.int .u32 p.ino) ∧ w.cell? ⟨b,off + i * 4 + 1,none⟩ = some (.int .i64 p.part) ∧ w.cell? ⟨b,off + i * 4 + 2,none⟩ = some (.string p.name) ∧ w.cell? ⟨b,off + i * 4 + 3,none⟩ = some (.int .u32 p.chunk):=by
 obtain ⟨⟨a',c',e,h1,h2,h3⟩,_⟩:=h
 simp only [Value.slice.injEq] at e
 obtain ⟨rfl,rfl,rfl⟩:=e
 obtain ⟨b',off',e,hlt,hc⟩:=h3 (by intro e; subst e; simp at hx)
 simp only [Option.some.injEq,Addr.mk.injEq] at e
 obtain ⟨rfl,rfl,_⟩:=e
 exact ⟨hc i p 0 _ hx rfl,hc i p 1 _ hx rfl,hc i p 2 _ hx rfl,hc i p 3 _ hx rfl⟩
theorem rm_in {B : Nat} {w : World} {a : Sa} {X : List Nat} {s : Sg} (h : SgIn B w a X s) (ino : Int) (h0 : 0 ≤ ino) (h1 : ino ≤ 4294967295) {N : Nat} (hk : Sk s N) (hN : N ≤ 4000) (hR : s.R.length ≤ 17999) (hU : s.U.length ≤ 17999) : Calls Tryz.prog 46 #[.pointer (some ⟨a.s,0,none⟩),.int .u32 ino] w fun e w' =>
  e = .returned (.int .i64 (rmR s ino).2) ∧ SgOut B w a X (rmR s ino).1 w':=by
 have cf:=find_in h ino h0 h1
 have hbd:=fd_bd (sg_ok h) hk.ck ino
 have HF : Hid (rmF s ino (fdR s ino) = rmR s ino):=rfl
 generalize rmR s ino = R at *
 generalize fdR s ino = F at *
 obtain ⟨⟨fk,fm,fl,fz⟩,fe⟩:=F
 unfold inV at cf
 dsimp only at cf HF hbd ⊢
 have HH : Hid (SgIn B w a X s):=h
 have HBD : Hid (Bd ⟨fk,fm,fl,fz⟩):=hbd
 have HX : Hid (∀ k ∈ X,k < w.heap.size):=h.lt
 have HK : Hid (Sk s N):=hk
 have HN : Hid (N ≤ 4000):=hN
 have HL : Hid (s.R.length ≤ 17999 ∧ s.U.length ≤ 17999):=⟨hR,hU⟩
 clear h hbd hk hR hU hN
 go_enter Tryz.func46,Tryz.ntmps46
 go_wp2_with fail
 refine cf.mono ?_
 rintro e w1 ⟨rfl,hb1⟩
 clear cf
 have hb2:=bel1 w1 (.cells #[.int .i64 fk,.int .i64 fm,.int .i64 fl,.int .i64 fz] 41)
 have hi2 : InRow (w1.alloc (.cells #[.int .i64 fk,.int .i64 fm,.int .i64 fl,.int .i64 fz] 41)) w1.heap.size fk fm fl fz:=⟨heap_alloc_new w1 _⟩
 obtain ⟨w2,hw2⟩ : ∃ w2,w1.alloc (.cells #[.int .i64 fk,.int .i64 fm,.int .i64 fl,.int .i64 fz] 41) = w2:=⟨_,rfl⟩
 rw [hw2] at hb2 hi2
 have hB2:=thenB hb1 hb2
 have HB2 : Hid (Below w.heap.size w w2):=hB2
 have HLE : Hid (w.heap.size ≤ w1.heap.size):=hb1.size
 by_cases he : fe = 0
 case neg =>
  have heb : (fe != 0) = true:=by simpa using he
  have HE : Hid (R = (s,fe)):=by unfold Hid; rw [← HF.out]; unfold rmF; rw [if_pos he]
  clear HF hi2
  go_wp2
  go_ret
  exact ⟨by rw [HE.out]; first | done | rfl,by rw [HE.out]; exact HH.out.out HB2.out⟩
 subst he
 have HE : Hid (rmE (goneL (rmB s ino ⟨fk,fm,fl,fz⟩) (placesL ino ⟨fk,fm,fl,fz⟩)) ino = R):=by have:=HF.out; unfold rmF at this; rw [if_neg (by simp)] at this; exact this
 clear HF
 have i0:=hi2.cell 0 _ rfl
 have HI2 : Hid (InRow w2 w1.heap.size fk fm fl fz):=hi2
 have c1:=(HH.out.below HB2.out).c1
 clear hi2 hb1 hb2 hB2
 by_cases hk1 : fk = 1
 ·subst hk1
  have hb3:=bel1 w2 (.cells #[.int .i64 3] 3)
  have hk3 : RdKs (w2.alloc (.cells #[.int .i64 3] 3)) (.slice (some ⟨w2.heap.size,0,none⟩) 1 1) [3]:=rdKs_lit w2 [3]
  obtain ⟨w3,hw3⟩ : ∃ w3,w2.alloc (.cells #[.int .i64 3] 3) = w3:=⟨_,rfl⟩
  rw [hw3] at hb3 hk3
  have ct:=((HH.out.below HB2.out).below hb3).touchR ino h0 h1 _ _ _ _ hk3 (by intro k hk; simp at hk; omega) (by decide) (by have:=HL.out.1; omega)
  have HB3 : Hid (Below w.heap.size w w3):=thenB HB2.out hb3
  have HI3 : Hid (InRow w3 w1.heap.size 1 fm fl fz):=HI2.out.below hb3
  have HE1 : Hid (rmE (goneL { s with R:=addK s.R ino [3] } (placesL ino ⟨1,fm,fl,fz⟩)) ino = R):=HE.out
  have HKB : Hid (Sk { s with R:=addK s.R ino [3] } (N + 1 + 0)):=HK.out.read ino [3]
  have HUB : Hid (({ s with R:=addK s.R ino [3] } : Sg).U = s.U):=rfl
  clear hb3 hk3 HE HB2 HI2
  have HE:=HE1
  clear HE1
  go_wp2_with fail
  refine ct.mono ?_
  rintro e wq ⟨rfl,hoq⟩
  clear ct i0
  have HQ : Hid (SgOut B w a X { s with R:=addK s.R ino [3] } wq):=SgOut.pre HB3.out hoq
  have HIQ : Hid (InRow wq w1.heap.size 1 fm fl fz):=HI3.out.sole hoq.sole (fun e => by have:=HX.out _ e; have:=HLE.out; omega)
  clear hoq HB3 HI3
  have lq : Hid _:=HIQ.out.load
  obtain ⟨Xq,hq1,hq2,hq3⟩:=HQ.out
  have HQ2 : Hid (Sole X w wq):=hq2
  have HQ3 : Hid (∀ k ∈ Xq,k ∈ X ∨ w.heap.size ≤ k):=hq3
  have HXQ : Hid (∀ k ∈ Xq,k < wq.heap.size):=hq1.lt
  have cp:=placesOf_any wq ino h0 h1 ⟨1,fm,fl,fz⟩ HBD.out.s0 HBD.out.s1
  unfold inV at cp
  dsimp only at cp
  have HPO : Hid (∀ p ∈ placesL ino ⟨1,fm,fl,fz⟩,PlOk p):=placesL_ok h0 h1 HBD.out.s1
  have HPL : Hid ((placesL ino ⟨1,fm,fl,fz⟩).length ≤ 17):=placesL_len HBD.out.s1
  have hpos:=placesL_pos ino ⟨1,fm,fl,fz⟩
  generalize placesL ino ⟨1,fm,fl,fz⟩ = P at *
  clear hq2 hq3 c1
  go_wp2_with (refine wpList_loadG rfl 41 _ rfl _ rfl _ lq.out ?_)
  refine cp.mono ?_
  rintro e w6 ⟨pa,pc,rfl,hpo,hb6⟩
  clear cp lq
  obtain ⟨n,hn⟩ : ∃ n,P.length = n:=⟨_,rfl⟩
  have HNL : Hid (P.length = n):=hn
  have hn17 : n ≤ 17:=by rw [← hn]; exact HPL.out
  have hn0 : 0 < n:=by rw [← hn]; exact hpos
  rw [hn] at hpo ⊢
  have hrd : RdZ 4 plE4 w6 (.slice pa n pc) P:=by rw [← hn]; rw [← hn] at hpo; exact rdZ_own plE4_len hpo
  obtain ⟨g,rfl,hg⟩ : ∃ g,pa = some ⟨g,0,none⟩ ∧ wq.heap.size ≤ g ∧ g < w6.heap.size:=by
   rcases hpo.2 with ⟨e,e2⟩ | ⟨g',cap,cur,e,hb',hh,_⟩
   ·exfalso; omega
   ·simp only [Value.slice.injEq] at e
    exact ⟨g',e.1,hb',lt_of_row hh⟩
  have HS6 : Hid (SgIn B w6 a Xq { s with R:=addK s.R ino [3] }):=hq1.below hb6
  have HB6 : Hid (Below wq.heap.size wq w6):=hb6
  have HG : Hid (wq.heap.size ≤ g ∧ g < w6.heap.size):=hg
  have HXG : Hid (∀ (X' : List Nat),(∀ k ∈ X',k ∈ Xq ∨ w6.heap.size ≤ k) → g ∉ X'):=fun X' hx hm => by
   rcases hx g hm with e | e
   ·have:=HXQ.out g e; have:=HG.out; omega
   ·have:=HG.out; omega
  have HRD : Hid (RdZ 4 plE4 w6 (.slice (some ⟨g,0,none⟩) n pc) P):=hrd
  clear hpo hq1 hb6 hg hrd hn hpos
  go_wp2
  go_loopg [33] n (fun kx s33 wr => ∃ (i : Nat) (s' : Sg),s33 = .int .i64 i ∧ i ≤ n ∧ n - i ≤ kx ∧ Hid (SgOut B w6 a Xq s' wr ∧ RdZ 4 plE4 wr (.slice (some ⟨g,0,none⟩) n pc) P ∧ goneL { s with R:=addK s.R ino [3] } P = goneL s' (P.drop i) ∧ Sk s' (N + 1 + i) ∧ s'.U = s.U))
  case atStart => exact ⟨0,{ s with R:=addK s.R ino [3] },rfl,Nat.zero_le _,by omega,HS6.out.out (Below.refl _ _),HRD.out,rfl,HKB.out,(by first | exact HUB.out | rfl)⟩
  case round =>
   obtain ⟨i,s',rfl,hin,hkx,HW⟩:=hrel
   by_cases hlt : i < n
   ·obtain ⟨p,hy⟩ : ∃ y,P[i]? = some y:=⟨_,List.getElem?_eq_getElem (by have:=HNL.out; omega)⟩
    have HY : Hid (P[i]? = some p):=hy
    obtain ⟨hw1,hw2,hw3,hw4,hw5⟩:=HW.out
    obtain ⟨q0,q1,q2,q3⟩:=pl_cells hw2 hy
    simp only [Nat.zero_add] at q0 q1 q2 q3
    have HDR : Hid (P.drop i = p :: P.drop (i + 1)):=by
     have hl : i < P.length:=by have:=HNL.out; omega
     have e:=List.drop_eq_getElem_cons hl
     rw [List.getElem?_eq_getElem hl] at hy
     cases hy
     exact e
    have HGL : Hid (goneL { s with R:=addK s.R ino [3] } P = goneL s' (p :: P.drop (i + 1))):=by rw [← HDR.out]; exact hw3
    have HK4 : Hid (Sk s' (N + 1 + i)):=hw4
    have HU5 : Hid (s'.U = s.U):=hw5
    have HR2 : Hid (RdZ 4 plE4 wr (.slice (some ⟨g,0,none⟩) n pc) P):=hw2
    have HO1 : Hid (SgOut B w6 a Xq s' wr):=hw1
    have hp8 : PlAt (wr.alloc (.cells (plCells p) 110)) wr.heap.size p:=PlAt.laid wr p
    have hb8:=bel1 wr (.cells (plCells p) 110)
    obtain ⟨w8,hw8⟩ : ∃ w8,wr.alloc (.cells (plCells p) 110) = w8:=⟨_,rfl⟩
    rw [hw8] at hp8 hb8
    have HP8 : Hid (PlAt w8 wr.heap.size p):=hp8
    have HPK : Hid (PlOk p):=HPO.out p (List.mem_of_getElem? hy)
    have HB8 : Hid (Below wr.heap.size wr w8):=hb8
    unfold plCells at hw8
    have hiI : (i : Int) < (n : Int):=by omega
    have hib : (i : Int) + 1 ≤ 1001:=by omega
    clear hw1 hw2 hw3 hw4 hw5 hy hp8 hb8 HW
    go_wp2_with fail
    try rw [hw8]
    clear hw8 q0 q1 q2 q3
    obtain ⟨X8,hx1,hx2,hx3⟩:=HO1.out.post HB8.out
    have HX1 : Hid (SgIn B w8.drew a X8 s'):=hx1.drew
    have HX2 : Hid (Sole Xq w6 w8):=hx2
    have HX3 : Hid (∀ k ∈ X8,k ∈ Xq ∨ w6.heap.size ≤ k):=hx3
    have HNX : Hid (wr.heap.size ∉ X8):=fun hm => by
     obtain ⟨vd,vr,vu,hh,e⟩:=hx1
     subst e
     exact (hh.other HP8.out.row (by decide) (by decide) (by decide) (by decide) (by decide)) hm
    have hS0 : SRow w8.drew a ∧ PlAt w8.drew wr.heap.size p:=⟨HX1.out.row,⟨HP8.out.row⟩⟩
    have lP : ∀ W,(SRow W a ∧ PlAt W wr.heap.size p) → (Instr.loadAt 110 (.pointer (some ⟨wr.heap.size,0,none⟩))).run Tryz.prog W = .ok (plV p) W:=fun W h => h.2.loadG
    clear hx1 hx2 hx3
    refine wp_region_noPanic ?_
    refine wp_region_held_drew (S:=fun W => SRow W a ∧ PlAt W wr.heap.size p) (by kernel_rfl) hS0 (fun hHeld => ?_)
    refine tk 0 (.pointer (some ⟨a.s,0,none⟩)) rfl ?_
    try simp only [nz]
    refine tk 1 (.pointer (some ⟨a.s,0,none⟩)) rfl ?_
    try simp only [nz]
    refine tk 2 (.pointer (some ⟨a.s,0,none⟩)) rfl ?_
    try simp only [nz]
    refine tk 3 (.pointer (some ⟨a.v,0,none⟩)) rfl ?_ (fun W hSw => by (try dsimp only at hSw); (have z:=hSw.1.c0; go_simp))
    try simp only [nz]
    refine wpAnyH_take (i:=4) (v:=plV p) rfl (by kernel_rfl) (by kernel_rfl) (by kernel_rfl) (fun _ _ _ h => h) (yields_load (by rfl) _ _ rfl _ rfl _ lP) (by assumption) ?_
    try simp only [nz]
    refine wpAnyH_take (i:=5) (v:=.agg (cgC (goneC p))) rfl (by kernel_rfl) (by kernel_rfl) (by kernel_rfl) (fun _ _ _ h => h) (yields_build (by rfl) 114 _ rfl [(0,plV p),(1,.bool true)] (by kernel_rfl) _ (bt_gone p)) (by assumption) ?_
    try simp only [nz]
    have cp:=HX1.out.put (goneC p) (gone_ok HPK.out) (by have:=HK4.out.L; have:=HN.out; omega) (by have:=HK4.out.P; have:=HN.out; omega)
    refine rd 6 rfl (fun K hK => ?_)
    go_simp
    go_wp2_with (go_at_call 69; refine cp.mono ?_; rintro e w9 ⟨rfl,ho9⟩)
    have HO9 : Hid (SgOut B w6 a Xq (gone1 s' p) w9):=SgOut.then (w1:=w8.drew) (HX2.out.trans (Sole.drew _ _)) HX3.out ho9
    have HR9 : Hid (RdZ 4 plE4 w9 (.slice (some ⟨g,0,none⟩) n pc) P):=((HR2.out.below HB8.out).below (Below.refl _ w8).drew).sole ho9.sole (HXG.out X8 HX3.out)
    refine hK.out _ _ ⟨ho9.srow,⟨ho9.sole.row hHeld.2.row HNX.out⟩⟩ (fun hHeld3 => ?_)
    clear hK K cp
    try simp only [nz]
    refine tk 7 (.int .i64 (putX s'.d (goneC p)).2) rfl ?_
    try simp only [nz]
    refine wpAnyH_done (by kernel_rfl) ?_ _
    refine NoPanic.normal ?_
    rw [show (putX s'.d (goneC p)).2 = goneE s' p from rfl]
    clear hHeld hHeld3 ho9 lP hS0 HX1 HX2 HX3 HP8 HO1 HR2
    by_cases hpe : goneE s' p = 0
    case neg =>
     have hpb : (goneE s' p != 0) = true:=by simpa using hpe
     have HE9 : Hid (R = (gone1 s' p,goneE s' p)):=by
      unfold Hid
      rw [← HE.out,HGL.out]
      unfold goneL
      rw [if_pos hpe]
      unfold rmE
      rw [if_pos hpe]
     clear HE
     obtain ⟨ge,hge⟩ : ∃ ge,goneE s' p = ge:=⟨_,rfl⟩
     rw [hge] at hpb HE9 ⊢
     clear hge hpe
     go_wp2
     go_ret
     exact ⟨by rw [HE9.out]; first | done | rfl,by rw [HE9.out]; exact SgOut.then HQ2.out HQ3.out (SgOut.pre HB6.out HO9.out)⟩
    have HGL9 : Hid (goneL { s with R:=addK s.R ino [3] } P = goneL (gone1 s' p) (P.drop (i + 1))):=by
     have e:=HGL.out
     rw [goneL,if_neg (by rw [hpe]; decide)] at e
     exact e
    have HK9 : Hid (Sk (gone1 s' p) (N + 1 + (i + 1))):=HK4.out.put (goneC p)
    rw [hpe]
    clear hpe HGL
    go_wp2
    go_roundg (n - (i + 1))
    case measure => omega
    case rel => exact ⟨i + 1,gone1 s' p,by rw [show ((i : Int) + 1) = ((i + 1 : Nat) : Int) by omega],by omega,by omega,HO9.out,HR9.out,HGL9.out,HK9.out,HU5.out⟩
   ·obtain rfl : n = i:=by omega
    obtain ⟨hw1,hw2,hw3,hw4,hw5⟩:=HW.out
    have HR7 : Hid (R = ({ s' with U:=addK s'.U ino [7] },0)):=by
     unfold Hid
     rw [← HE.out,hw3,List.drop_of_length_le (by have:=HNL.out; omega)]
     rfl
    obtain ⟨X7,hx1,hx2,hx3⟩:=hw1
    have HX2 : Hid (Sole Xq w6 wr):=hx2
    have HX3 : Hid (∀ k ∈ X7,k ∈ Xq ∨ w6.heap.size ≤ k):=hx3
    have hb7:=bel1 wr (.cells #[.int .i64 7] 3)
    have hk7 : RdKs (wr.alloc (.cells #[.int .i64 7] 3)) (.slice (some ⟨wr.heap.size,0,none⟩) 1 1) [7]:=rdKs_lit wr [7]
    obtain ⟨w7,hw7⟩ : ∃ w7,wr.alloc (.cells #[.int .i64 7] 3) = w7:=⟨_,rfl⟩
    rw [hw7] at hb7 hk7
    have c2:=hx1.c2
    have ct:=(hx1.below hb7).touchU ino h0 h1 _ _ _ _ hk7 (by intro k hk; simp at hk; omega) (by decide) (by rw [hw5]; have:=HL.out.2; omega)
    have HB7 : Hid (Below wr.heap.size wr w7):=hb7
    clear hx1 hx2 hx3 hw2 hw3 hw4 hw5 hk7 hb7 HW HE
    go_wp2_with fail
    refine ct.mono ?_
    rintro e wz ⟨rfl,hoz⟩
    clear ct c2
    have HOZ : Hid _:=hoz
    clear hoz
    go_wp2
    go_ret
    exact ⟨by rw [HR7.out]; first | done | rfl,by rw [HR7.out]; exact SgOut.then HQ2.out HQ3.out (SgOut.pre HB6.out (SgOut.then HX2.out HX3.out (SgOut.pre HB7.out HOZ.out)))⟩
 ·have hk1b : (fk == 1) = false:=by simpa using hk1
  have HE1 : Hid (rmE (goneL s (placesL ino ⟨fk,fm,fl,fz⟩)) ino = R):=by have:=HE.out; unfold rmB at this; rw [if_neg hk1] at this; exact this
  have HKB : Hid (Sk s (N + 1 + 0)):=HK.out.mono (by omega)
  have HUB : Hid (s.U = s.U):=rfl
  clear HE
  have HE:=HE1
  clear HE1
  have HQ : Hid (SgOut B w a X s w2):=HH.out.out HB2.out
  have HIQ:=HI2
  clear HI2 hk1
  have lq : Hid _:=HIQ.out.load
  obtain ⟨Xq,hq1,hq2,hq3⟩:=HQ.out
  have HQ2 : Hid (Sole X w w2):=hq2
  have HQ3 : Hid (∀ k ∈ Xq,k ∈ X ∨ w.heap.size ≤ k):=hq3
  have HXQ : Hid (∀ k ∈ Xq,k < w2.heap.size):=hq1.lt
  have cp:=placesOf_any w2 ino h0 h1 ⟨fk,fm,fl,fz⟩ HBD.out.s0 HBD.out.s1
  unfold inV at cp
  dsimp only at cp
  have HPO : Hid (∀ p ∈ placesL ino ⟨fk,fm,fl,fz⟩,PlOk p):=placesL_ok h0 h1 HBD.out.s1
  have HPL : Hid ((placesL ino ⟨fk,fm,fl,fz⟩).length ≤ 17):=placesL_len HBD.out.s1
  have hpos:=placesL_pos ino ⟨fk,fm,fl,fz⟩
  generalize placesL ino ⟨fk,fm,fl,fz⟩ = P at *
  clear hq2 hq3 c1
  go_wp2_with (refine wpList_loadG rfl 41 _ rfl _ rfl _ lq.out ?_)
  refine cp.mono ?_
  rintro e w6 ⟨pa,pc,rfl,hpo,hb6⟩
  clear cp lq
  obtain ⟨n,hn⟩ : ∃ n,P.length = n:=⟨_,rfl⟩
  have HNL : Hid (P.length = n):=hn
  have hn17 : n ≤ 17:=by rw [← hn]; exact HPL.out
  have hn0 : 0 < n:=by rw [← hn]; exact hpos
  rw [hn] at hpo ⊢
  have hrd : RdZ 4 plE4 w6 (.slice pa n pc) P:=by rw [← hn]; rw [← hn] at hpo; exact rdZ_own plE4_len hpo
  obtain ⟨g,rfl,hg⟩ : ∃ g,pa = some ⟨g,0,none⟩ ∧ w2.heap.size ≤ g ∧ g < w6.heap.size:=by
   rcases hpo.2 with ⟨e,e2⟩ | ⟨g',cap,cur,e,hb',hh,_⟩
   ·exfalso; omega
   ·simp only [Value.slice.injEq] at e
    exact ⟨g',e.1,hb',lt_of_row hh⟩
  have HS6 : Hid (SgIn B w6 a Xq s):=hq1.below hb6
  have HB6 : Hid (Below w2.heap.size w2 w6):=hb6
  have HG : Hid (w2.heap.size ≤ g ∧ g < w6.heap.size):=hg
  have HXG : Hid (∀ (X' : List Nat),(∀ k ∈ X',k ∈ Xq ∨ w6.heap.size ≤ k) → g ∉ X'):=fun X' hx hm => by
   rcases hx g hm with e | e
   ·have:=HXQ.out g e; have:=HG.out; omega
   ·have:=HG.out; omega
  have HRD : Hid (RdZ 4 plE4 w6 (.slice (some ⟨g,0,none⟩) n pc) P):=hrd
  clear hpo hq1 hb6 hg hrd hn hpos
  go_wp2
  go_loopg [33] n (fun kx s33 wr => ∃ (i : Nat) (s' : Sg),s33 = .int .i64 i ∧ i ≤ n ∧ n - i ≤ kx ∧ Hid (SgOut B w6 a Xq s' wr ∧ RdZ 4 plE4 wr (.slice (some ⟨g,0,none⟩) n pc) P ∧ goneL s P = goneL s' (P.drop i) ∧ Sk s' (N + 1 + i) ∧ s'.U = s.U))
  case atStart => exact ⟨0,s,rfl,Nat.zero_le _,by omega,HS6.out.out (Below.refl _ _),HRD.out,rfl,HKB.out,(by first | exact HUB.out | rfl)⟩
  case round =>
   obtain ⟨i,s',rfl,hin,hkx,HW⟩:=hrel
   by_cases hlt : i < n
   ·obtain ⟨p,hy⟩ : ∃ y,P[i]? = some y:=⟨_,List.getElem?_eq_getElem (by have:=HNL.out; omega)⟩
    have HY : Hid (P[i]? = some p):=hy
    obtain ⟨hw1,hw2,hw3,hw4,hw5⟩:=HW.out
    obtain ⟨q0,q1,q2,q3⟩:=pl_cells hw2 hy
    simp only [Nat.zero_add] at q0 q1 q2 q3
    have HDR : Hid (P.drop i = p :: P.drop (i + 1)):=by
     have hl : i < P.length:=by have:=HNL.out; omega
     have e:=List.drop_eq_getElem_cons hl
     rw [List.getElem?_eq_getElem hl] at hy
     cases hy
     exact e
    have HGL : Hid (goneL s P = goneL s' (p :: P.drop (i + 1))):=by rw [← HDR.out]; exact hw3
    have HK4 : Hid (Sk s' (N + 1 + i)):=hw4
    have HU5 : Hid (s'.U = s.U):=hw5
    have HR2 : Hid (RdZ 4 plE4 wr (.slice (some ⟨g,0,none⟩) n pc) P):=hw2
    have HO1 : Hid (SgOut B w6 a Xq s' wr):=hw1
    have hp8 : PlAt (wr.alloc (.cells (plCells p) 110)) wr.heap.size p:=PlAt.laid wr p
    have hb8:=bel1 wr (.cells (plCells p) 110)
    obtain ⟨w8,hw8⟩ : ∃ w8,wr.alloc (.cells (plCells p) 110) = w8:=⟨_,rfl⟩
    rw [hw8] at hp8 hb8
    have HP8 : Hid (PlAt w8 wr.heap.size p):=hp8
    have HPK : Hid (PlOk p):=HPO.out p (List.mem_of_getElem? hy)
    have HB8 : Hid (Below wr.heap.size wr w8):=hb8
    unfold plCells at hw8
    have hiI : (i : Int) < (n : Int):=by omega
    have hib : (i : Int) + 1 ≤ 1001:=by omega
    clear hw1 hw2 hw3 hw4 hw5 hy hp8 hb8 HW
    go_wp2_with fail
    try rw [hw8]
    clear hw8 q0 q1 q2 q3
    obtain ⟨X8,hx1,hx2,hx3⟩:=HO1.out.post HB8.out
    have HX1 : Hid (SgIn B w8.drew a X8 s'):=hx1.drew
    have HX2 : Hid (Sole Xq w6 w8):=hx2
    have HX3 : Hid (∀ k ∈ X8,k ∈ Xq ∨ w6.heap.size ≤ k):=hx3
    have HNX : Hid (wr.heap.size ∉ X8):=fun hm => by
     obtain ⟨vd,vr,vu,hh,e⟩:=hx1
     subst e
     exact (hh.other HP8.out.row (by decide) (by decide) (by decide) (by decide) (by decide)) hm
    have hS0 : SRow w8.drew a ∧ PlAt w8.drew wr.heap.size p:=⟨HX1.out.row,⟨HP8.out.row⟩⟩
    have lP : ∀ W,(SRow W a ∧ PlAt W wr.heap.size p) → (Instr.loadAt 110 (.pointer (some ⟨wr.heap.size,0,none⟩))).run Tryz.prog W = .ok (plV p) W:=fun W h => h.2.loadG
    clear hx1 hx2 hx3
    refine wp_region_noPanic ?_
    refine wp_region_held_drew (S:=fun W => SRow W a ∧ PlAt W wr.heap.size p) (by kernel_rfl) hS0 (fun hHeld => ?_)
    refine tk 0 (.pointer (some ⟨a.s,0,none⟩)) rfl ?_
    try simp only [nz]
    refine tk 1 (.pointer (some ⟨a.s,0,none⟩)) rfl ?_
    try simp only [nz]
    refine tk 2 (.pointer (some ⟨a.s,0,none⟩)) rfl ?_
    try simp only [nz]
    refine tk 3 (.pointer (some ⟨a.v,0,none⟩)) rfl ?_ (fun W hSw => by (try dsimp only at hSw); (have z:=hSw.1.c0; go_simp))
    try simp only [nz]
    refine wpAnyH_take (i:=4) (v:=plV p) rfl (by kernel_rfl) (by kernel_rfl) (by kernel_rfl) (fun _ _ _ h => h) (yields_load (by rfl) _ _ rfl _ rfl _ lP) (by assumption) ?_
    try simp only [nz]
    refine wpAnyH_take (i:=5) (v:=.agg (cgC (goneC p))) rfl (by kernel_rfl) (by kernel_rfl) (by kernel_rfl) (fun _ _ _ h => h) (yields_build (by rfl) 114 _ rfl [(0,plV p),(1,.bool true)] (by kernel_rfl) _ (bt_gone p)) (by assumption) ?_
    try simp only [nz]
    have cp:=HX1.out.put (goneC p) (gone_ok HPK.out) (by have:=HK4.out.L; have:=HN.out; omega) (by have:=HK4.out.P; have:=HN.out; omega)
    refine rd 6 rfl (fun K hK => ?_)
    go_simp
    go_wp2_with (go_at_call 69; refine cp.mono ?_; rintro e w9 ⟨rfl,ho9⟩)
    have HO9 : Hid (SgOut B w6 a Xq (gone1 s' p) w9):=SgOut.then (w1:=w8.drew) (HX2.out.trans (Sole.drew _ _)) HX3.out ho9
    have HR9 : Hid (RdZ 4 plE4 w9 (.slice (some ⟨g,0,none⟩) n pc) P):=((HR2.out.below HB8.out).below (Below.refl _ w8).drew).sole ho9.sole (HXG.out X8 HX3.out)
    refine hK.out _ _ ⟨ho9.srow,⟨ho9.sole.row hHeld.2.row HNX.out⟩⟩ (fun hHeld3 => ?_)
    clear hK K cp
    try simp only [nz]
    refine tk 7 (.int .i64 (putX s'.d (goneC p)).2) rfl ?_
    try simp only [nz]
    refine wpAnyH_done (by kernel_rfl) ?_ _
    refine NoPanic.normal ?_
    rw [show (putX s'.d (goneC p)).2 = goneE s' p from rfl]
    clear hHeld hHeld3 ho9 lP hS0 HX1 HX2 HX3 HP8 HO1 HR2
    by_cases hpe : goneE s' p = 0
    case neg =>
     have hpb : (goneE s' p != 0) = true:=by simpa using hpe
     have HE9 : Hid (R = (gone1 s' p,goneE s' p)):=by
      unfold Hid
      rw [← HE.out,HGL.out]
      unfold goneL
      rw [if_pos hpe]
      unfold rmE
      rw [if_pos hpe]
     clear HE
     obtain ⟨ge,hge⟩ : ∃ ge,goneE s' p = ge:=⟨_,rfl⟩
     rw [hge] at hpb HE9 ⊢
     clear hge hpe
     go_wp2
     go_ret
     exact ⟨by rw [HE9.out]; first | done | rfl,by rw [HE9.out]; exact SgOut.then HQ2.out HQ3.out (SgOut.pre HB6.out HO9.out)⟩
    have HGL9 : Hid (goneL s P = goneL (gone1 s' p) (P.drop (i + 1))):=by
     have e:=HGL.out
     rw [goneL,if_neg (by rw [hpe]; decide)] at e
     exact e
    have HK9 : Hid (Sk (gone1 s' p) (N + 1 + (i + 1))):=HK4.out.put (goneC p)
    rw [hpe]
    clear hpe HGL
    go_wp2
    go_roundg (n - (i + 1))
    case measure => omega
    case rel => exact ⟨i + 1,gone1 s' p,by rw [show ((i : Int) + 1) = ((i + 1 : Nat) : Int) by omega],by omega,by omega,HO9.out,HR9.out,HGL9.out,HK9.out,HU5.out⟩
   ·obtain rfl : n = i:=by omega
    obtain ⟨hw1,hw2,hw3,hw4,hw5⟩:=HW.out
    have HR7 : Hid (R = ({ s' with U:=addK s'.U ino [7] },0)):=by
     unfold Hid
     rw [← HE.out,hw3,List.drop_of_length_le (by have:=HNL.out; omega)]
     rfl
    obtain ⟨X7,hx1,hx2,hx3⟩:=hw1
    have HX2 : Hid (Sole Xq w6 wr):=hx2
    have HX3 : Hid (∀ k ∈ X7,k ∈ Xq ∨ w6.heap.size ≤ k):=hx3
    have hb7:=bel1 wr (.cells #[.int .i64 7] 3)
    have hk7 : RdKs (wr.alloc (.cells #[.int .i64 7] 3)) (.slice (some ⟨wr.heap.size,0,none⟩) 1 1) [7]:=rdKs_lit wr [7]
    obtain ⟨w7,hw7⟩ : ∃ w7,wr.alloc (.cells #[.int .i64 7] 3) = w7:=⟨_,rfl⟩
    rw [hw7] at hb7 hk7
    have c2:=hx1.c2
    have ct:=(hx1.below hb7).touchU ino h0 h1 _ _ _ _ hk7 (by intro k hk; simp at hk; omega) (by decide) (by rw [hw5]; have:=HL.out.2; omega)
    have HB7 : Hid (Below wr.heap.size wr w7):=hb7
    clear hx1 hx2 hx3 hw2 hw3 hw4 hw5 hk7 hb7 HW HE
    go_wp2_with fail
    refine ct.mono ?_
    rintro e wz ⟨rfl,hoz⟩
    clear ct c2
    have HOZ : Hid _:=hoz
    clear hoz
    go_wp2
    go_ret
    exact ⟨by rw [HR7.out]; first | done | rfl,by rw [HR7.out]; exact SgOut.then HQ2.out HQ3.out (SgOut.pre HB6.out (SgOut.then HX2.out HX3.out (SgOut.pre HB7.out HOZ.out)))⟩
end Go.Proofs.YtgajjphjkbnaeaaGreat
