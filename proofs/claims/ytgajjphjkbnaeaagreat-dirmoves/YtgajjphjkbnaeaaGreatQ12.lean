/- DlMath, DlUndoM, DgMath, WSink, BBase: in one text. -/
import Derived.Test.YtgajjphjkbnaeaaGreatQ10
import Derived.Test.YtgajjphjkbnaeaaGreatQ11
import Derived.Test.YtgajjphjkbnaeaaGreatQ1
import Derived.Deep.RegionHeld3
import Derived.Below
namespace Go.Proofs.YtgajjphjkbnaeaaGreat
open Go.RowKit
set_option linter.unusedVariables false
set_option maxHeartbeats 32000000
set_option maxRecDepth 100000
set_option linter.unusedSimpArgs false
def Rise (L : List Cg) : Prop:=L.Pairwise fun x y => cmpP x.pl y.pl = -1
structure LOk (L : List Cg) : Prop where
 rise : Rise L
 ok : ∀ c ∈ L,CgOk c
def getL (L : List Cg) (p : Pl) : Option Cg:=L.find? fun c => plEq c.pl p
def delL (L : List Cg) (p : Pl) : List Cg:=L.filter fun c => !plEq c.pl p
def insC (c : Cg) : List Cg → List Cg
 | [] => [c]
 | y :: r => if cmpP c.pl y.pl = -1 then c :: y :: r else y :: insC c r
def setL (L : List Cg) (c : Cg) : List Cg:=insC c (delL L c.pl)
theorem cmp_irr (p : Pl) : cmpP p p ≠ -1:=by rw [cmpP_ord.same]; decide
theorem cmp_ne {p q : Pl} (h : cmpP p q = -1) : p ≠ q:=fun e => by rw [e] at h; exact cmp_irr q h
theorem cmp_tr {p q r : Pl} (h : cmpP p q = -1) (k : cmpP q r = -1) : cmpP p r = -1:=cmpP_ord.trans p q r h k
theorem cmp_other {p q : Pl} (h : cmpP p q ≠ -1) (hne : p ≠ q) : cmpP q p = -1:=by
 have t:=cmpP_ord.turn p q
 rcases cmpP_ord.three p q with a | a | a
 ·exact absurd a h
 ·exact absurd ((cmpP_ord.zero p q).1 a) hne
 ·rw [t,a]
theorem plEq_no {p q : Pl} (h : p ≠ q) : plEq p q = false:=by
 cases e : plEq p q
 ·rfl
 ·exact absurd (plEq_iff.1 e) h
theorem plEq_self (p : Pl) : plEq p p = true:=plEq_iff.2 rfl
theorem insC_mem {c x : Cg} : ∀ L,x ∈ insC c L ↔ x = c ∨ x ∈ L
 | [] => by simp [insC]
 | y :: r => by
  unfold insC
  split
  ·simp
  ·rw [List.mem_cons,insC_mem r,List.mem_cons]
   constructor
   ·rintro (h | h | h)
    ·exact .inr (.inl h)
    ·exact .inl h
    ·exact .inr (.inr h)
   ·rintro (h | h | h)
    ·exact .inr (.inl h)
    ·exact .inl h
    ·exact .inr (.inr h)
theorem insC_perm (c : Cg) : ∀ L,(insC c L).Perm (c :: L)
 | [] => List.Perm.refl _
 | y :: r => by
  unfold insC
  split
  ·exact List.Perm.refl _
  ·exact ((insC_perm c r).cons y).trans (List.Perm.swap _ _ _)
theorem insC_rise {c : Cg} : ∀ {L : List Cg},Rise L → (∀ x ∈ L,x.pl ≠ c.pl) → Rise (insC c L)
 | [],_,_ => by simp [insC,Rise]
 | y :: r,h,hn => by
  obtain ⟨h1,h2⟩:=List.pairwise_cons.1 h
  unfold insC
  split
  ·rename_i hc
   refine List.pairwise_cons.2 ⟨fun x hx => ?_,h⟩
   rcases List.mem_cons.1 hx with rfl | hx
   ·exact hc
   ·exact cmp_tr hc (h1 x hx)
  ·rename_i hc
   have hyc : cmpP y.pl c.pl = -1:=cmp_other hc (fun e => hn y (by simp) e.symm)
   refine List.pairwise_cons.2 ⟨fun x hx => ?_,insC_rise h2 (fun x hx => hn x (by simp [hx]))⟩
   rcases (insC_mem r).1 hx with rfl | hx
   ·exact hyc
   ·exact h1 x hx
theorem delL_mem {L : List Cg} {p : Pl} {x : Cg} : x ∈ delL L p ↔ x ∈ L ∧ x.pl ≠ p:=by
 unfold delL
 rw [List.mem_filter]
 constructor
 ·rintro ⟨h1,h2⟩
  exact ⟨h1,fun e => by rw [plEq_iff.2 e] at h2; cases h2⟩
 ·rintro ⟨h1,h2⟩
  exact ⟨h1,by rw [plEq_no h2]; rfl⟩
theorem delL_ok {L : List Cg} (h : LOk L) (p : Pl) : LOk (delL L p):=⟨h.rise.filter _,fun c hc => h.ok c (delL_mem.1 hc).1⟩
theorem delL_len (L : List Cg) (p : Pl) : (delL L p).length ≤ L.length:=List.length_filter_le _ _
theorem setL_ok {L : List Cg} (h : LOk L) {c : Cg} (hc : CgOk c) : LOk (setL L c) :=
 ⟨insC_rise (delL_ok h c.pl).rise fun x hx => (delL_mem.1 hx).2,fun x hx => by
  rcases (insC_mem _).1 hx with rfl | hx
  ·exact hc
  ·exact h.ok x (delL_mem.1 hx).1⟩
theorem setL_mem {L : List Cg} {c x : Cg} : x ∈ setL L c ↔ x = c ∨ (x ∈ L ∧ x.pl ≠ c.pl):=by
 unfold setL; rw [insC_mem,delL_mem]
theorem setL_len (L : List Cg) (c : Cg) : (setL L c).length ≤ L.length + 1:=by
 unfold setL
 rw [(insC_perm c _).length_eq,List.length_cons]
 have:=delL_len L c.pl
 omega
theorem rise_ext : ∀ {A B : List Cg},Rise A → Rise B → (∀ x,x ∈ A ↔ x ∈ B) → A = B
 | [],[],_,_,_ => rfl
 | [],b :: B,_,_,h => by have:=(h b).2 (by simp); cases this
 | a :: A,[],_,_,h => by have:=(h a).1 (by simp); cases this
 | a :: A,b :: B,hA,hB,h => by
  obtain ⟨a1,a2⟩:=List.pairwise_cons.1 hA
  obtain ⟨b1,b2⟩:=List.pairwise_cons.1 hB
  have hab : a = b:=by
   rcases List.mem_cons.1 ((h a).1 (by simp)) with e | e
   ·exact e
   ·rcases List.mem_cons.1 ((h b).2 (by simp)) with e' | e'
    ·exact e'.symm
    ·exact absurd (cmp_tr (b1 a e) (a1 b e')) (cmp_irr _)
  subst hab
  refine congrArg (a :: ·) (rise_ext a2 b2 fun x => ?_)
  constructor
  ·intro hx
   rcases List.mem_cons.1 ((h x).1 (by simp [hx])) with e | e
   ·subst e; exact absurd (a1 x hx) (cmp_irr _)
   ·exact e
  ·intro hx
   rcases List.mem_cons.1 ((h x).2 (by simp [hx])) with e | e
   ·subst e; exact absurd (b1 x hx) (cmp_irr _)
   ·exact e
theorem rise_one {L : List Cg} (h : Rise L) {x y : Cg} (hx : x ∈ L) (hy : y ∈ L) (e : x.pl = y.pl) : x = y:=by
 induction L with
 | nil => cases hx
 | cons a L ih =>
  obtain ⟨h1,h2⟩:=List.pairwise_cons.1 h
  rcases List.mem_cons.1 hx with hx | hx
  ·rcases List.mem_cons.1 hy with hy | hy
   ·rw [hx,hy]
   ·rw [hx] at e; exact absurd e (cmp_ne (h1 _ hy))
  ·rcases List.mem_cons.1 hy with hy | hy
   ·rw [hy] at e; exact absurd e.symm (cmp_ne (h1 _ hx))
   ·exact ih h2 hx hy
theorem getL_some {L : List Cg} (h : Rise L) {p : Pl} {c : Cg} : getL L p = some c ↔ c ∈ L ∧ c.pl = p:=by
 constructor
 ·intro e
  exact ⟨List.mem_of_find?_eq_some e,plEq_iff.1 (List.find?_some (p:=fun c : Cg => plEq c.pl p) e)⟩
 ·rintro ⟨h1,h2⟩
  cases hf : getL L p with
  | none =>
   have:=List.find?_eq_none.1 hf c h1
   rw [h2,plEq_self] at this
   exact absurd rfl this
  | some d =>
   have hd : d ∈ L ∧ d.pl = p:=⟨List.mem_of_find?_eq_some hf,plEq_iff.1 (List.find?_some (p:=fun c : Cg => plEq c.pl p) hf)⟩
   rw [rise_one h hd.1 h1 (hd.2.trans h2.symm)]
theorem getL_none {L : List Cg} {p : Pl} : getL L p = none ↔ ∀ c ∈ L,c.pl ≠ p:=by
 unfold getL
 rw [List.find?_eq_none]
 constructor
 ·intro h c hc e
  exact h c hc (plEq_iff.2 e)
 ·intro h c hc e
  exact h c hc (plEq_iff.1 e)
theorem getL_ok {L : List Cg} (h : LOk L) (p : Pl) : CgOk ((getL L p).getD cg0):=by
 cases hg : getL L p with
 | none => exact cg0_ok
 | some c => exact h.ok c (List.mem_of_find?_eq_some hg)
theorem getL_set {L : List Cg} (h : LOk L) {c : Cg} (hc : CgOk c) (p : Pl) : getL (setL L c) p = if plEq c.pl p = true then some c else getL L p:=by
 split
 ·rename_i e
  have e:=plEq_iff.1 e
  exact (getL_some (setL_ok h hc).rise).2 ⟨setL_mem.2 (.inl rfl),e⟩
 ·rename_i e
  have e : ¬ c.pl = p:=fun h => e (plEq_iff.2 h)
  cases hg : getL L p with
  | none =>
   refine getL_none.2 fun x hx => ?_
   rcases setL_mem.1 hx with rfl | ⟨h1,_⟩
   ·exact e
   ·exact getL_none.1 hg x h1
  | some d =>
   obtain ⟨h1,h2⟩:=(getL_some h.rise).1 hg
   exact (getL_some (setL_ok h hc).rise).2 ⟨setL_mem.2 (.inr ⟨h1,fun e' => e (e'.symm.trans h2)⟩),h2⟩
theorem getL_del {L : List Cg} (h : LOk L) (q p : Pl) : getL (delL L q) p = if plEq q p = true then none else getL L p:=by
 split
 ·rename_i e
  have e:=plEq_iff.1 e
  exact getL_none.2 fun x hx => by rw [← e]; exact (delL_mem.1 hx).2
 ·rename_i e
  have e : ¬ q = p:=fun h => e (plEq_iff.2 h)
  cases hg : getL L p with
  | none => exact getL_none.2 fun x hx => getL_none.1 hg x (delL_mem.1 hx).1
  | some d =>
   obtain ⟨h1,h2⟩:=(getL_some h.rise).1 hg
   exact (getL_some (delL_ok h q).rise).2 ⟨delL_mem.2 ⟨h1,fun e' => e (e'.symm.trans h2)⟩,h2⟩
theorem getL_ext {A B : List Cg} (hA : LOk A) (hB : LOk B) (h : ∀ p,getL A p = getL B p) : A = B:=by
 refine rise_ext hA.rise hB.rise fun x => ?_
 constructor
 ·intro hx
  have:=(getL_some hA.rise).2 ⟨hx,rfl⟩
  rw [h] at this
  exact ((getL_some hB.rise).1 this).1
 ·intro hx
  have:=(getL_some hB.rise).2 ⟨hx,rfl⟩
  rw [← h] at this
  exact ((getL_some hA.rise).1 this).1
theorem set_back {L : List Cg} (h : LOk L) {c was : Cg} (hc : CgOk c) (hg : getL L c.pl = some was) : setL (setL L c) was = L:=by
 obtain ⟨h1,h2⟩:=(getL_some h.rise).1 hg
 have hw:=h.ok was h1
 refine getL_ext (setL_ok (setL_ok h hc) hw) h fun p => ?_
 rw [getL_set (setL_ok h hc) hw,getL_set h hc]
 rw [h2]
 split
 ·rename_i e
  rw [← plEq_iff.1 e,hg]
 ·rfl
theorem del_back {L : List Cg} (h : LOk L) {c : Cg} (hc : CgOk c) (hg : getL L c.pl = none) : delL (setL L c) c.pl = L:=by
 refine getL_ext (delL_ok (setL_ok h hc) _) h fun p => ?_
 rw [getL_del (setL_ok h hc),getL_set h hc]
 split
 ·rename_i e
  rw [← plEq_iff.1 e,hg]
 ·rfl
structure Pu where
 pl : Pl
 was : Cg
 is : Bool
def puL (x : Pu) : List Value:=(plCells x.pl).toList ++ (cgL x.was ++ [.bool x.is])
structure PuOk (x : Pu) : Prop where
 pl : PlOk x.pl
 was : CgOk x.was
 at_ : x.is = true → x.was.pl = x.pl
theorem puL_len {x : Pu} (h : PuOk x) : (puL x).length = 51:=by
 unfold puL
 rw [List.length_append,List.length_append,cgL_len h.was.pt.ch.1]
 rfl
structure Dl where
 most : Int
 L : List Cg
 pus : List Pu
structure DlOk (s : Dl) : Prop where
 m0 : 0 ≤ s.most
 m1 : s.most ≤ 9223372036854775807
 L : LOk s.L
 pus : ∀ x ∈ s.pus,PuOk x
def behX (s : Dl) (was : Cg) (is : Bool) (c : Cg) : Cg × Int :=
 if ckOk c then (if is then joinX was c else if (s.L.length : Int) ≥ s.most then (cg0,201) else (c,0)) else (cg0,1)
def wasX (s : Dl) (p : Pl) : Cg:=(getL s.L p).getD cg0
def isX (s : Dl) (p : Pl) : Bool:=(getL s.L p).isSome
def putX (s : Dl) (c : Cg) : Cg × Int:=behX s (wasX s c.pl) (isX s c.pl) c
def putS (s : Dl) (c : Cg) : Dl:=if (putX s c).2 = 0 then ⟨s.most,setL s.L (putX s c).1,s.pus ++ [⟨c.pl,wasX s c.pl,isX s c.pl⟩]⟩ else s
def newS (m : Int) : Dl:=⟨max m 0,[],[]⟩
def undo1 (L : List Cg) (x : Pu) : List Cg:=if x.is then setL L x.was else delL L x.pl
theorem behX_ok {s : Dl} {was c : Cg} {is : Bool} (hw : CgOk was) (hc : CgOk c) : CgOk (behX s was is c).1:=by
 unfold behX
 repeat' split
 all_goals first | exact joinX_ok hw hc | exact cg0_ok | exact hc
theorem joinX_pl {a b : Cg} (h : (joinX a b).2 = 0) : (joinX a b).1.pl = b.pl:=by
 unfold joinX at h ⊢
 cases h1 : ckOk a
 ·rw [h1] at h; cases h
 cases h2 : ckOk b
 ·rw [h1,h2] at h; cases h
 cases h3 : plEq a.pl b.pl
 ·rw [h1,h2,h3] at h; cases h
 rw [h1,h2,h3] at h
 simp only [if_true] at h ⊢
 have e:=plEq_iff.1 h3
 cases h4 : b.gone
 ·rw [h4] at h
  simp only [Bool.false_eq_true,if_false] at h ⊢
  by_cases h5 : b.pl.part = 1
  ·rw [if_pos h5] at h ⊢
   unfold jRX at h ⊢
   cases h6 : b.fresh
   ·rw [h6] at h
    simp only [Bool.false_eq_true,if_false] at h ⊢
    cases h7 : a.gone
    ·rw [h7] at h
     simp only [Bool.false_eq_true,if_false] at h ⊢
     cases h8 : recOk (recJ a b)
     ·rw [h8] at h; cases h
     ·simp only [if_true]
      rw [← e]
      unfold recJ recI
      split <;> rfl
    ·rw [h7] at h; cases h
   ·rfl
  ·rw [if_neg h5] at h ⊢
   by_cases h6 : b.pl.part = 2
   ·rw [if_pos h6]
   ·rw [if_neg h6]
    unfold jDX
    split <;> rfl
 ·rfl
theorem behX_pl {s : Dl} {was c : Cg} {is : Bool} (h : (behX s was is c).2 = 0) : (behX s was is c).1.pl = c.pl:=by
 unfold behX at h ⊢
 cases h1 : ckOk c
 ·rw [h1] at h; cases h
 rw [h1] at h
 simp only [if_true] at h ⊢
 cases is
 ·simp only [Bool.false_eq_true,if_false] at h ⊢
  split
  ·rename_i hh; rw [if_pos hh] at h; cases h
  ·rfl
 ·exact joinX_pl h
theorem putX_ok {s : Dl} (hs : DlOk s) {c : Cg} (hc : CgOk c) : CgOk (putX s c).1:=behX_ok (getL_ok hs.L _) hc
theorem putX_pl {s : Dl} {c : Cg} (h : (putX s c).2 = 0) : (putX s c).1.pl = c.pl:=behX_pl h
theorem was_pl {s : Dl} (hs : DlOk s) {p : Pl} (h : isX s p = true) : (wasX s p).pl = p:=by
 unfold isX at h
 unfold wasX
 cases hg : getL s.L p with
 | none => rw [hg] at h; cases h
 | some c => exact ((getL_some hs.L.rise).1 hg).2
theorem putS_ok {s : Dl} (hs : DlOk s) {c : Cg} (hc : CgOk c) : DlOk (putS s c):=by
 unfold putS
 split
 ·refine ⟨hs.m0,hs.m1,setL_ok hs.L (putX_ok hs hc),fun x hx => ?_⟩
  rcases List.mem_append.1 hx with hx | hx
  ·exact hs.pus x hx
  ·rw [List.mem_singleton] at hx; subst hx
   exact ⟨hc.pl,getL_ok hs.L _,fun h => was_pl hs h⟩
 ·exact hs
theorem newS_ok {m : Int} (h : m ≤ 9223372036854775807) : DlOk (newS m):=⟨by unfold newS; dsimp only; omega,by unfold newS; dsimp only; omega,⟨List.Pairwise.nil,fun c hc => by cases hc⟩,fun x hx => by cases hx⟩
theorem put_back {s : Dl} (hs : DlOk s) {c : Cg} (hc : CgOk c) (h : (putX s c).2 = 0) : undo1 (putS s c).L ⟨c.pl,wasX s c.pl,isX s c.pl⟩ = s.L:=by
 have hk:=putX_ok hs hc
 have hp:=putX_pl h
 unfold putS
 rw [if_pos h]
 unfold undo1
 dsimp only
 unfold isX
 cases hg : getL s.L c.pl with
 | none =>
  simp only [Option.isSome_none,Bool.false_eq_true,if_false]
  rw [← hp]
  exact del_back hs.L hk (by rw [hp]; exact hg)
 | some d =>
  simp only [Option.isSome_some,if_true]
  have e : wasX s c.pl = d:=by unfold wasX; rw [hg]; rfl
  rw [e]
  exact set_back hs.L hk (by rw [hp]; exact hg)
def undoL (L : List Cg) (xs : List Pu) : List Cg:=xs.foldl undo1 L
def undoS (s : Dl) (m : Nat) : Dl:=⟨s.most,undoL s.L (s.pus.drop m).reverse,s.pus.take m⟩
theorem undo1_len (L : List Cg) (x : Pu) : (undo1 L x).length ≤ L.length + 1:=by
 unfold undo1
 split
 ·exact setL_len _ _
 ·have:=delL_len L x.pl; omega
theorem undoL_len (xs : List Pu) : ∀ L,(undoL L xs).length ≤ L.length + xs.length:=by
 induction xs with
 | nil => intro L; exact Nat.le_refl _
 | cons x xs ih => intro L; have:=ih (undo1 L x); have:=undo1_len L x; unfold undoL at *; rw [List.foldl_cons,List.length_cons]; omega
theorem undoL_snoc (L : List Cg) (xs : List Pu) (x : Pu) : undoL L (xs ++ [x]) = undo1 (undoL L xs) x:=by unfold undoL; rw [List.foldl_append]; rfl
def stepX (q : Pl) (a : Option Cg) (c : Cg) : Option Cg:=if plEq c.pl q = true then some (match a with | none => c | some x => (joinX x c).1) else a
def foldX (xs : List Cg) (q : Pl) : Option Cg:=xs.foldl (stepX q) none
theorem foldX_snoc (xs : List Cg) (c : Cg) (q : Pl) : foldX (xs ++ [c]) q = stepX q (foldX xs q) c:=by unfold foldX; rw [List.foldl_append]; rfl
structure Rel (s : Dl) (xs : List Cg) : Prop where
 len : xs.length = s.pus.length
 at_ : ∀ m,m ≤ xs.length → ∀ q,getL (undoS s m).L q = foldX (xs.take m) q
theorem Rel.now {s : Dl} {xs : List Cg} (h : Rel s xs) (q : Pl) : getL s.L q = foldX xs q:=by
 have:=h.at_ xs.length (Nat.le_refl _) q
 rw [List.take_length] at this
 rw [← this]
 unfold undoS
 rw [h.len,List.drop_length]
 rfl
theorem Rel.new (m : Int) : Rel (newS m) []:=⟨rfl,fun k hk q => by
 have : k = 0:=by simpa using hk
 subst this
 rfl⟩
theorem Rel.put {s : Dl} {xs : List Cg} (h : Rel s xs) (hs : DlOk s) {c : Cg} (hc : CgOk c) (h0 : (putX s c).2 = 0) : Rel (putS s c) (xs ++ [c]):=by
 have hb:=put_back hs hc h0
 have hk:=putX_ok hs hc
 have hp:=putX_pl h0
 have e : putS s c = ⟨s.most,setL s.L (putX s c).1,s.pus ++ [⟨c.pl,wasX s c.pl,isX s c.pl⟩]⟩:=by unfold putS; rw [if_pos h0]
 rw [e] at hb ⊢
 refine ⟨by simp [h.len],fun m hm q => ?_⟩
 rw [List.length_append,List.length_singleton] at hm
 by_cases hl : m ≤ xs.length
 ·rw [List.take_append_of_le_length hl,← h.at_ m hl q]
  unfold undoS
  dsimp only at hb ⊢
  rw [List.drop_append_of_le_length (by rw [← h.len]; exact hl),List.reverse_append,List.reverse_cons,List.reverse_nil,List.nil_append,List.cons_append,List.nil_append]
  show getL (undoL (undo1 _ _) _) q = _
  rw [hb]
 ·obtain rfl : m = xs.length + 1:=by omega
  rw [show (xs ++ [c]).take (xs.length + 1) = xs ++ [c] from List.take_of_length_le (by simp),foldX_snoc,← h.now q]
  unfold undoS
  dsimp only
  rw [List.drop_of_length_le (by rw [List.length_append,List.length_singleton,h.len]; exact Nat.le_refl _)]
  show getL (setL s.L (putX s c).1) q = _
  rw [getL_set hs.L hk,hp]
  unfold stepX
  split
  ·rename_i eq
   have eq:=plEq_iff.1 eq
   subst eq
   unfold putX behX at h0 ⊢
   cases h1 : ckOk c
   ·rw [h1] at h0; cases h0
   ·rw [h1] at h0
    unfold isX wasX at h0 ⊢
    cases hg : getL s.L c.pl with
    | none =>
     rw [hg] at h0
     dsimp only [Option.isSome,Option.getD] at h0 ⊢
     by_cases hm' : (s.L.length : Int) ≥ s.most
     ·simp [hm'] at h0
     ·simp [hm']
    | some x => simp
  ·rfl
theorem Rel.all {s : Dl} {xs A : List Cg} (h : Rel s xs) (hs : DlOk s) (hA : LOk A) (ha : ∀ q,getL A q = foldX xs q) : A = s.L :=
 getL_ext hA hs.L fun q => (ha q).trans (h.now q).symm
section
variable {P : Program} {ops : Array Oper} {Q : Exit → Act → World → Prop} {md : Region.Mode} {S : World → Prop}
def Behind (P : Program) (ops : Array Oper) (z : Nat) (Q : Exit → Act → World → Prop) : Exit → Act → World → Prop
 | .normal,a,w => wpOp P ops Q z (fun a' w' => Q .normal a' w') a w
 | .ret,a,w => Q .ret a w
 | .exit l,a,w => Q (.exit l) a w
 | .panic c,a,w => Q (.panic c) a w
 | e,a,w => Q e a w
theorem upon_behind {z : Nat} {o : Oper} {a : Act} {K : Act → World → Prop} {r : Result Next} (h : o.upon P a K (Behind P ops z Q) r) : o.upon P a K Q r:=by
 cases r with
 | ok n w' =>
  cases n <;> simp only [Oper.upon] at h ⊢ <;>
   first
    | exact h
    | exact Calls.mono h (fun e w'' he => by cases e <;> exact he)
 | halt x w' => cases x <;> simp only [Oper.upon] at h ⊢ <;> exact h
theorem wpOp_behind {z i : Nat} {a : Act} {w : World} {K : Act → World → Prop} (h : wpOp P ops (Behind P ops z Q) i K a w) : wpOp P ops Q i K a w:=by
 unfold wpOp at *
 cases ho : ops[i]? with
 | none => simpa [ho] using h
 | some o =>
  simp only [ho] at h ⊢
  split
  ·rename_i hw
   rw [if_pos hw] at h
   rcases h with h | ⟨h1,h2⟩
   ·exact .inl (upon_behind h)
   ·exact .inr ⟨h1,h2⟩
  ·rename_i hw
   rw [if_neg hw] at h
   exact h
def sinkOk (md : Region.Mode) (ops : Array Oper) (z : Nat) : Bool :=
 (z + 1 == ops.size) && (List.range ops.size).all (fun i => ((ops[i]?).map (·.after.all fun e => decide (e.on < i))).getD true) &&
  (List.range z).all (fun j => (List.range ops.size).any (fun k => decide (j < k) && ((ops[k]?).map (·.after.any fun e => Region.binds md e && e.on == j)).getD false))
def Closed (md : Region.Mode) (ops : Array Oper) (listed : Array Bool) : Prop :=
 ∀ (k : Nat) (o : Oper) (e : Edge),ops[k]? = some o → listed.getD k false = true → e ∈ o.after → Region.binds md e = true → listed.getD e.on false = true
theorem wpAny_sink {z : Nat} (hs : sinkOk md ops z = true) : ∀ (fuel : Nat) (listed : Array Bool) (a : Act) (w : World),listed.size = ops.size → listed.getD z true = false → Closed md ops listed →
  wpAny P md ops (Behind P ops z Q) fuel (listed.setIfInBounds z true) a w → wpAny P md ops Q (fuel + 1) listed a w:=by
 unfold sinkOk at hs
 simp only [Bool.and_eq_true,beq_iff_eq,List.all_eq_true,List.mem_range] at hs
 obtain ⟨⟨hz,hlow⟩,hwait⟩:=hs
 have low : ∀ (i : Nat) (o : Oper) (e : Edge),ops[i]? = some o → e ∈ o.after → e.on < i:=fun i o e ho he => by
  have:=hlow i (Array.getElem?_eq_some_iff.1 ho).1
  rw [ho] at this
  simp only [Option.map_some,Option.getD_some,Array.all_eq_true_iff_forall_mem] at this
  exact of_decide_eq_true (this e he)
 have getD_tf : ∀ (listed : Array Bool) (j : Nat),j < listed.size → listed.getD j false = listed.getD j true:=fun listed j hj => by
  simp [Array.getD,hj]
 have progress : ∀ (listed : Array Bool),listed.size = ops.size → listed.getD z true = false → Region.ready md ops listed ≠ []:=fun listed hsz hzl hr => by
  have all : ∀ j,j ≤ z → listed.getD j true = true:=fun j => by
   induction j using Nat.strongRecOn with
   | _ j ih =>
    intro hj
    cases hl : listed.getD j true with
    | true => rfl
    | false =>
     exfalso
     have hjs : j < ops.size:=by omega
     have : j ∈ Region.ready md ops listed:=mem_ready.2 ⟨hl,ops[j],Array.getElem?_eq_getElem hjs,fun e he hb => by
      have hlt:=low j _ e (Array.getElem?_eq_getElem hjs) he
      rw [getD_tf listed e.on (by omega)]
      exact ih e.on hlt (by omega)⟩
     rw [hr] at this
     cases this
  rw [all z (Nat.le_refl _)] at hzl
  cases hzl
 have done : ∀ (listed : Array Bool),listed.size = ops.size → Closed md ops listed → z ∈ Region.ready md ops listed → Region.ready md ops (listed.setIfInBounds z true) = []:=fun listed hsz hcl hr => by
  obtain ⟨_,o,ho,hall⟩:=mem_ready.1 hr
  have every : ∀ d j,j + d = z → 0 < d → listed.getD j false = true:=fun d => by
   induction d using Nat.strongRecOn with
   | _ d ih =>
    intro j hj hd
    have hw:=hwait j (by omega)
    simp only [List.any_eq_true,List.mem_range,Bool.and_eq_true,decide_eq_true_eq] at hw
    obtain ⟨k,hk,hjk,hw⟩:=hw
    rw [Array.getElem?_eq_getElem hk] at hw
    simp only [Option.map_some,Option.getD_some,← Array.any_toList,List.any_eq_true,Bool.and_eq_true,beq_iff_eq] at hw
    obtain ⟨ed,he',hb,hon⟩:=hw
    have he : ed ∈ ops[k].after:=Array.mem_toList_iff.1 he'
    by_cases e : k = z
    ·have ho' : ops[k]? = some o:=by rw [e]; exact ho
     rw [Array.getElem?_eq_getElem hk] at ho'
     have ho2:=Option.some.inj ho'
     rw [ho2] at he
     have:=hall ed he hb
     rw [hon] at this
     exact this
    ·have h1:=ih (z - k) (by omega) k (by omega) (by omega)
     have:=hcl k _ ed (Array.getElem?_eq_getElem hk) h1 he hb
     rw [hon] at this
     exact this
  apply List.eq_nil_iff_forall_not_mem.2
  intro i hi
  obtain ⟨h0,oi,hoi,_⟩:=mem_ready.1 hi
  have his : i < ops.size:=(Array.getElem?_eq_some_iff.1 hoi).1
  by_cases e : i = z
  ·subst e
   rw [show (listed.setIfInBounds i true).getD i true = true from by simp [Array.getD,Array.size_setIfInBounds,hsz,his]] at h0
   cases h0
  ·have h1:=every (z - i) i (by omega) (by omega)
   rw [getD_tf listed i (by omega)] at h1
   have h2 : (listed.setIfInBounds z true).getD i true = listed.getD i true:=by
    simp [Array.getD,Array.size_setIfInBounds,hsz,his,Array.getElem_setIfInBounds,Ne.symm e]
   rw [h2,h1] at h0
   cases h0
 have closed : ∀ (listed : Array Bool) (i : Nat),listed.size = ops.size → Closed md ops listed → i ∈ Region.ready md ops listed → Closed md ops (listed.setIfInBounds i true):=fun listed i hsz hcl hi k o e ho hk he hb => by
  obtain ⟨_,oi,hoi,hall⟩:=mem_ready.1 hi
  apply getD_set_true
  by_cases q : k = i
  ·subst q
   rw [hoi] at ho
   have:=Option.some.inj ho
   subst this
   exact hall e he hb
  ·refine hcl k o e ho ?_ he hb
   have hks : k < ops.size:=(Array.getElem?_eq_some_iff.1 ho).1
   have h2 : (listed.setIfInBounds i true).getD k false = listed.getD k false:=by
    simp [Array.getD,Array.size_setIfInBounds,hsz,hks,Array.getElem_setIfInBounds,Ne.symm q]
   rw [h2] at hk
   exact hk
 intro fuel
 induction fuel with
 | zero =>
  intro listed a w hsz hzl hcl H
  refine ⟨fun h => absurd h (progress listed hsz hzl),fun i hi => ?_⟩
  by_cases e : i = z
  ·subst e
   exact wpOp_mono (fun a' w' q => ⟨H.1,q⟩) H.2
  ·have:=ready_mono hi e
   rw [H.1] at this
   cases this
 | succ fuel ih =>
  intro listed a w hsz hzl hcl H
  refine ⟨fun h => absurd h (progress listed hsz hzl),fun i hi => ?_⟩
  by_cases e : i = z
  ·subst e
   have hd:=done listed hsz hcl hi
   exact wpOp_mono (fun a' w' q => ⟨fun _ => q,fun j hj => by rw [hd] at hj; cases hj⟩) (H.1 hd)
  ·refine wpOp_mono (fun a' w' q => ?_) (wpOp_behind (H.2 i (ready_mono hi e)))
   refine ih (listed.setIfInBounds i true) a' w' (by simpa using hsz) ?_ (closed listed i hsz hcl hi) ?_
   ·rw [← hzl]
    have hzs : z < listed.size:=by omega
    simp [Array.getD,Array.size_setIfInBounds,hzs,Array.getElem_setIfInBounds,e]
   ·rw [Array.setIfInBounds_comm true true e]
    exact q
theorem wp_region_sink {id : Nat} {a : Act} {w : World} (z : Nat) (hs : sinkOk .any ops z = true) (hm : P.follows .mixedOrders = true) (hS : S w.drew)
  (h : S w.drew → wpAnyH P .any ops (Behind P ops z Q) S z ((Array.replicate ops.size false).setIfInBounds z true) a w.drew) : (Code.region id ops true).wp P Q a w:=by
 refine wp_region_any hm ?_
 have hz : ops.size = z + 1:=by
  unfold sinkOk at hs
  simp only [Bool.and_eq_true,beq_iff_eq] at hs
  omega
 rw [hz]
 refine wpAny_sink hs z (Array.replicate (z + 1) false) a w.drew (by simp [hz]) (by simp [Array.getD]) (fun k o e ho hk he hb => by simp [Array.getD] at hk) ?_
 have:=wpAny_of_held _ _ _ _ (h hS)
 rw [hz] at this
 exact this
theorem wpOp_at {i : Nat} {o : Oper} {a : Act} {w : World} {K : Act → World → Prop} (ho : ops[i]? = some o) (h : if Region.wanted o (yielded ops a.tmps) = true then o.wp P a w K Q else K (a.put o.dst undef) w) : wpOp P ops Q i K a w:=by
 unfold wpOp
 simp only [ho]
 split
 ·rename_i hw
  rw [if_pos hw] at h
  exact .inl h
 ·rename_i hw
  rw [if_neg hw] at h
  exact h
theorem Behind.run {z : Nat} {o : Oper} {a : Act} {w : World} (ho : ops[z]? = some o) (h : if Region.wanted o (yielded ops a.tmps) = true then o.wp P a w (fun a' w' => Q .normal a' w') Q else Q .normal (a.put o.dst undef) w) : Behind P ops z Q .normal a w:=wpOp_at ho h
end
/- What a call may change; no function of the program. -/
structure Sole (S : List Nat) (w w' : World) : Prop where
 os : w'.os = w.os
 tape : w'.tape = w.tape
 output : w'.output = w.output
 size : w.heap.size ≤ w'.heap.size
 block : ∀ k,k < w.heap.size → k ∉ S → w'.heap[k]? = w.heap[k]?
theorem Sole.refl (S : List Nat) (w : World) : Sole S w w:=⟨rfl,rfl,rfl,Nat.le_refl _,fun _ _ _ => rfl⟩
theorem Sole.trans {S : List Nat} {a b c : World} (h : Sole S a b) (k : Sole S b c) : Sole S a c :=
 ⟨k.os.trans h.os,k.tape.trans h.tape,k.output.trans h.output,Nat.le_trans h.size k.size,fun i hi hn => (k.block i (Nat.lt_of_lt_of_le hi h.size) hn).trans (h.block i hi hn)⟩
theorem Sole.mono {S S' : List Nat} {w w' : World} (h : Sole S w w') (hs : ∀ k ∈ S,k ∈ S') : Sole S' w w' :=
 ⟨h.os,h.tape,h.output,h.size,fun k hk hn => h.block k hk (fun e => hn (hs k e))⟩
theorem Sole.after {S S' : List Nat} {w0 w w' : World} (h0 : Sole S w0 w) (h : Sole S' w w') (hs : ∀ k ∈ S',k ∈ S ∨ w0.heap.size ≤ k) : Sole S w0 w' :=
 ⟨h.os.trans h0.os,h.tape.trans h0.tape,h.output.trans h0.output,Nat.le_trans h0.size h.size,fun i hi hn => (h.block i (Nat.lt_of_lt_of_le hi h0.size) (fun e => by rcases hs i e with h | h; exact hn h; omega)).trans (h0.block i hi hn)⟩
theorem Sole.of_below {w w' : World} (h : Below w.heap.size w w') (S : List Nat) : Sole S w w':=⟨h.os,h.tape,h.output,h.size,fun k hk _ => h.block k hk⟩
theorem Sole.below {w w' : World} (h : Sole [] w w') : Below w.heap.size w w':=⟨h.os,h.tape,h.output,h.size,fun k hk => h.block k hk (by simp)⟩
theorem Sole.setCell (w : World) {a : Addr} (u : Value) {S : List Nat} (hb : a.block ∈ S) : Sole S w (w.setCell a u) :=
 ⟨rfl,rfl,rfl,by simp [World.setCell],fun k hk hn => Below.heap_setCell _ _ _ _ (fun e => hn (by rw [e]; exact hb))⟩
theorem Sole.drew (w : World) (S : List Nat) : Sole S w w.drew:=⟨rfl,rfl,rfl,Nat.le_refl _,fun _ _ _ => rfl⟩
theorem belowQ (W : World) (q B : Nat) : Below B W (W.drewN q):=⟨rfl,rfl,rfl,Nat.le_refl _,fun _ _ => rfl⟩
def ptr (p : Nat) : Value:=.pointer (some ⟨p,0,none⟩)
end Go.Proofs.YtgajjphjkbnaeaaGreat
