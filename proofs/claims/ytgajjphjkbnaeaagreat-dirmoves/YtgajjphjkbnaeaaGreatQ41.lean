/- DlLive0, DlLaw, InN: in one text. -/
import Derived.Test.YtgajjphjkbnaeaaGreatQ13
import Derived.Test.YtgajjphjkbnaeaaGreatQ31
namespace Go.Proofs.YtgajjphjkbnaeaaGreat
open Go.RowKit
set_option linter.unusedVariables false
set_option maxHeartbeats 32000000
set_option maxRecDepth 100000
set_option linter.unusedSimpArgs false
open Go.RowKit Go.Maps
theorem setL_old {L : List Cg} (h : LOk L) {c d : Cg} (hc : CgOk c) (hg : getL L c.pl = some d) : (setL L c).length = L.length:=by
 obtain ⟨h1,h2⟩:=(getL_some h.rise).1 hg
 have e : setL L d = L:=by
  refine getL_ext (setL_ok h (h.ok d h1)) h fun p => ?_
  rw [getL_set h (h.ok d h1)]
  split
  ·rename_i e
   rw [← plEq_iff.1 e]
   exact ((getL_some h.rise).2 ⟨h1,rfl⟩).symm
  ·rfl
 have a : ∀ x : Cg,(setL L x).length = (delL L x.pl).length + 1:=fun x => by unfold setL; rw [(insC_perm x _).length_eq,List.length_cons]
 rw [a c,← h2,← a d,e]
theorem setL_new {L : List Cg} {c : Cg} (hg : getL L c.pl = none) : (setL L c).length = L.length + 1:=by
 unfold setL
 rw [(insC_perm c _).length_eq,List.length_cons]
 congr 2
 unfold delL
 refine List.filter_eq_self.2 fun x hx => ?_
 rw [plEq_no (getL_none.1 hg x hx)]; rfl
theorem putS_len {s : Dl} (hs : DlOk s) {c : Cg} (hc : CgOk c) (h : (s.L.length : Int) ≤ s.most) : ((putS s c).L.length : Int) ≤ s.most ∧ (putS s c).L.length ≤ s.L.length + 1 ∧ (putS s c).pus.length ≤ s.pus.length + 1 ∧ (putS s c).most = s.most:=by
 unfold putS
 split
 ·rename_i h0
  have hpl:=putX_pl h0
  dsimp only
  refine ⟨?_,setL_len _ _,by simp,rfl⟩
  cases hg : getL s.L c.pl with
  | some d => rw [setL_old hs.L (putX_ok hs hc) (d:=d) (by rw [hpl]; exact hg)]; exact h
  | none =>
   rw [setL_new (by rw [hpl]; exact hg)]
   have hi : isX s c.pl = false:=by unfold isX; rw [hg]; rfl
   unfold putX behX at h0
   rw [hi] at h0
   cases hk : ckOk c
   ·rw [hk] at h0; cases h0
   rw [hk] at h0
   simp only [if_true,Bool.false_eq_true,if_false] at h0
   split at h0
   ·cases h0
   ·omega
 ·exact ⟨h,Nat.le_succ _,Nat.le_succ _,rfl⟩
theorem putS_err {s : Dl} {c : Cg} (h : (putX s c).2 ≠ 0) : putS s c = s:=by
 unfold putS; rw [if_neg h]
def mixI (i j : In4) (sum : Int) : In4:=⟨i.k,if bF sum 1 then j.m else i.m,if bF sum 2 then j.l else i.l,if bF sum 4 then j.s else i.s⟩
def Sums (x : Int) : Prop:=x = 0 ∨ x = 1 ∨ x = 2 ∨ x = 3 ∨ x = 4 ∨ x = 5 ∨ x = 6 ∨ x = 7
theorem mix0 (i j : In4) : mixI i j 0 = i:=by unfold mixI; rw [if_neg (by decide),if_neg (by decide),if_neg (by decide)]
theorem wf1_mix {i n j : In4} {sum : Int} {f : Int × Int} {n' : In4} {s' : Int} (hs : Sums sum) (hn : n = mixI i j sum) (h : wf1 (some (n,sum)) f = some (n',s')) : ∃ j',wf1 (some (j,sum)) f = some (j',s') ∧ n' = mixI i j' s' ∧ Sums s' ∧ j'.k = j.k:=by
 unfold wf1 at h ⊢
 dsimp only at h ⊢
 cases ha : (bits .and .i64 sum f.1 != 0) with
 | true => rw [ha] at h; cases h
 | false =>
  rw [ha] at h
  simp only [Bool.false_eq_true,if_false] at h ⊢
  have hb : ∀ m,m = f.1 → bF sum m = false:=fun m e => by unfold bF; rw [e]; exact ha
  by_cases h1 : f.1 = 1
  ·rw [if_pos h1] at h ⊢
   cases h
   refine ⟨_,rfl,?_,?_,rfl⟩
   ·have b:=hb 1 h1.symm
    subst hn
    rcases hs with rfl | rfl | rfl | rfl | rfl | rfl | rfl | rfl
    all_goals first | (exact absurd b (by decide)) | (unfold mixI; simp [show bF 0 1 = false by decide,show bF 0 2 = false by decide,show bF 0 4 = false by decide,show bF 2 1 = false by decide,show bF 2 2 = true by decide,show bF 2 4 = false by decide,show bF 4 1 = false by decide,show bF 4 2 = false by decide,show bF 4 4 = true by decide,show bF 6 1 = false by decide,show bF 6 2 = true by decide,show bF 6 4 = true by decide,show bits BinOp.or .i64 0 1 = 1 by decide,show bits BinOp.or .i64 2 1 = 3 by decide,show bits BinOp.or .i64 4 1 = 5 by decide,show bits BinOp.or .i64 6 1 = 7 by decide,show bF 1 1 = true by decide,show bF 1 2 = false by decide,show bF 1 4 = false by decide,show bF 3 1 = true by decide,show bF 3 2 = true by decide,show bF 3 4 = false by decide,show bF 5 1 = true by decide,show bF 5 2 = false by decide,show bF 5 4 = true by decide,show bF 7 1 = true by decide,show bF 7 2 = true by decide,show bF 7 4 = true by decide]; done)
   ·rcases hs with rfl | rfl | rfl | rfl | rfl | rfl | rfl | rfl <;> (unfold Sums; decide)
  rw [if_neg h1] at h ⊢
  by_cases h2 : f.1 = 2
  ·rw [if_pos h2] at h ⊢
   cases h
   refine ⟨_,rfl,?_,?_,rfl⟩
   ·have b:=hb 2 h2.symm
    subst hn
    rcases hs with rfl | rfl | rfl | rfl | rfl | rfl | rfl | rfl
    all_goals first | (exact absurd b (by decide)) | (unfold mixI; simp [show bF 0 1 = false by decide,show bF 0 2 = false by decide,show bF 0 4 = false by decide,show bF 1 1 = true by decide,show bF 1 2 = false by decide,show bF 1 4 = false by decide,show bF 4 1 = false by decide,show bF 4 2 = false by decide,show bF 4 4 = true by decide,show bF 5 1 = true by decide,show bF 5 2 = false by decide,show bF 5 4 = true by decide,show bits BinOp.or .i64 0 2 = 2 by decide,show bits BinOp.or .i64 1 2 = 3 by decide,show bits BinOp.or .i64 4 2 = 6 by decide,show bits BinOp.or .i64 5 2 = 7 by decide,show bF 2 1 = false by decide,show bF 2 2 = true by decide,show bF 2 4 = false by decide,show bF 3 1 = true by decide,show bF 3 2 = true by decide,show bF 3 4 = false by decide,show bF 6 1 = false by decide,show bF 6 2 = true by decide,show bF 6 4 = true by decide,show bF 7 1 = true by decide,show bF 7 2 = true by decide,show bF 7 4 = true by decide]; done)
   ·rcases hs with rfl | rfl | rfl | rfl | rfl | rfl | rfl | rfl <;> (unfold Sums; decide)
  rw [if_neg h2] at h ⊢
  by_cases h4 : f.1 = 4
  ·rw [if_pos h4] at h ⊢
   cases h
   refine ⟨_,rfl,?_,?_,rfl⟩
   ·have b:=hb 4 h4.symm
    subst hn
    rcases hs with rfl | rfl | rfl | rfl | rfl | rfl | rfl | rfl
    all_goals first | (exact absurd b (by decide)) | (unfold mixI; simp [show bF 0 1 = false by decide,show bF 0 2 = false by decide,show bF 0 4 = false by decide,show bF 1 1 = true by decide,show bF 1 2 = false by decide,show bF 1 4 = false by decide,show bF 2 1 = false by decide,show bF 2 2 = true by decide,show bF 2 4 = false by decide,show bF 3 1 = true by decide,show bF 3 2 = true by decide,show bF 3 4 = false by decide,show bits BinOp.or .i64 0 4 = 4 by decide,show bits BinOp.or .i64 1 4 = 5 by decide,show bits BinOp.or .i64 2 4 = 6 by decide,show bits BinOp.or .i64 3 4 = 7 by decide,show bF 4 1 = false by decide,show bF 4 2 = false by decide,show bF 4 4 = true by decide,show bF 5 1 = true by decide,show bF 5 2 = false by decide,show bF 5 4 = true by decide,show bF 6 1 = false by decide,show bF 6 2 = true by decide,show bF 6 4 = true by decide,show bF 7 1 = true by decide,show bF 7 2 = true by decide,show bF 7 4 = true by decide]; done)
   ·rcases hs with rfl | rfl | rfl | rfl | rfl | rfl | rfl | rfl <;> (unfold Sums; decide)
  rw [if_neg h4] at h
  cases h
theorem wf_mix {i : In4} : ∀ (fs : List (Int × Int)) {n j : In4} {sum : Int},Sums sum → n = mixI i j sum → ∀ {n' s'},fs.foldl wf1 (some (n,sum)) = some (n',s') → ∃ j',fs.foldl wf1 (some (j,sum)) = some (j',s') ∧ n' = mixI i j' s' ∧ Sums s' ∧ j'.k = j.k
 | [],n,j,sum,hs,hn,n',s',h => by cases h; exact ⟨j,rfl,hn,hs,rfl⟩
 | f :: fs,n,j,sum,hs,hn,n',s',h => by
  rw [List.foldl_cons] at h
  cases h1 : wf1 (some (n,sum)) f with
  | none => rw [h1,wf_none] at h; cases h
  | some p =>
   obtain ⟨n1,s1⟩:=p
   obtain ⟨j1,e1,e2,e3,e4⟩:=wf1_mix hs hn h1
   rw [h1] at h
   obtain ⟨j',a1,a2,a3,a4⟩:=wf_mix fs e3 e2 h
   exact ⟨j',by rw [List.foldl_cons,e1]; exact a1,a2,a3,a4.trans e4⟩
theorem wfR_mix {i : In4} {fs : List (Int × Int)} (h : (wfR i fs).2.2 = true) : ∃ j sum,Sums sum ∧ wfR in0 fs = (j,sum,true) ∧ wfR i fs = (mixI i j sum,sum,true) ∧ j.k = 0:=by
 unfold wfR at h ⊢
 cases h1 : wfL i fs with
 | none => rw [h1] at h; cases h
 | some p =>
  obtain ⟨n,sum⟩:=p
  obtain ⟨j,e1,e2,e3,e4⟩:=wf_mix (i:=i) fs (j:=in0) (.inl rfl) (mix0 i in0).symm (n:=i) h1
  unfold wfL
  rw [e1]
  exact ⟨j,sum,e3,rfl,by rw [e2],e4⟩
theorem fd_same {s t : Sg} (hl : t.l = s.l) (hd : t.d = s.d) (ino : Int) : fdR t ino = fdR s ino:=by unfold fdR; rw [hl,hd]
end Go.Proofs.YtgajjphjkbnaeaaGreat
