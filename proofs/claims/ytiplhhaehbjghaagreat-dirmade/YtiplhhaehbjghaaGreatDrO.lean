/- Mathematics: what was made is found; taken away it is gone. -/
import Derived.Test.YtiplhhaehbjghaaGreatDrM
namespace Go.Proofs.YtiplhhaehbjghaaGreat
open Go.RowKit
set_option linter.unusedVariables false
set_option linter.unusedSimpArgs false
set_option maxRecDepth 100000

theorem seg_none : (List.range 100).all (fun n => decide (n < 2) || (nmS ((rootL.drop (fdN rootL (spF (n : Int) 2))).takeWhile fun p => ltS p.1 (spT (n : Int) 2))).isEmpty) = true := by kernel_rfl
theorem names_gone {s : Sg} (hl : s.l = rootL) (hd : DlOk s.d) (hc : CksOk s.d) {n : Int} (h0 : 2 ≤ n) (h1 : n < 100) (h : ∀ x, dE s n x = 0) : namesV s.l s.d n = [] := by
 have hs : nmS ((rootL.drop (fdN rootL (spF n 2))).takeWhile fun p => ltS p.1 (spT n 2)) = [] := by
  have q := List.all_eq_true.1 seg_none n.toNat (List.mem_range.2 (by omega))
  rw [show ((n.toNat : Nat) : Int) = n by omega, decide_eq_false (show ¬ n.toNat < 2 by omega), Bool.false_or] at q
  exact List.isEmpty_iff.1 q
 unfold namesV
 rw [hl, hs]
 show setN (kept n s.d.L) = []
 unfold setN
 rw [List.filter_eq_nil_iff.2 (fun c hm hng => ?_)]
 ·rfl
 ·have hg : c.gone = false := by simpa using hng
  obtain ⟨hm1, hm2⟩ := List.mem_filter.1 hm
  unfold keepE at hm2
  simp only [Bool.and_eq_true, decide_eq_true_eq] at hm2
  obtain ⟨e1, e2⟩ := hm2
  have hk := hc c hm1
  unfold ckOk at hk
  by_cases hpl : plOk c.pl = true
  case neg => rw [if_neg hpl] at hk; cases hk
  rw [if_pos hpl, if_neg (by rw [hg]; decide), if_neg (by omega), if_pos e2] at hk
  unfold entOk at hk
  simp only [Bool.and_eq_true] at hk
  obtain ⟨e3, e4⟩ := hk
  have e5 := cgEq_iff.1 e3
  have hfr : c.fresh = false := by rw [e5]; rfl
  have hpe : entP n c.pl.name = c.pl := by
   rcases (plOk_cases hpl).2 with ⟨q, _, _⟩ | ⟨_, _, q⟩ | ⟨q, _, _⟩
   ·omega
   ·obtain ⟨⟨p1, p2, p3, p4⟩⟩ := c
    dsimp only at e1 e2 q ⊢
    subst e1 e2 q
    rfl
   ·omega
  have hx2 := h c.pl.name
  unfold dE vgR at hx2
  rw [hpe, hl] at hx2
  have hgl : getL s.d.L c.pl = some c := (getL_some hd.L.rise).2 ⟨hm1, rfl⟩
  have hw : wasX s.d c.pl = c := by unfold wasX; rw [hgl]; rfl
  have hi : isX s.d c.pl = true := by unfold isX; rw [hgl]; rfl
  rw [hi, if_pos rfl, hw] at hx2
  unfold chL chR at hx2
  rw [if_neg (by rw [hg]; decide), if_neg (by rw [hfr]; decide), if_pos e2] at hx2
  have hx3 : c.to = 0 := hx2
  rw [hx3] at e4
  exact absurd e4 (by decide)

theorem mk_err {D : Sgd} {s : D.G.S} {p : ByteArray} {k m : Int} (h : (drMake D s p k m).2.2 ≠ 0) : (drMake D s p k m).2.1 = 0 := by
 unfold drMake drMake0 at h ⊢
 split at h
 ·rw [if_pos ‹_›]
 ·rw [if_neg ‹_›]
  unfold drMake1 at h ⊢
  split at h
  ·rw [if_pos ‹_›]
  ·rw [if_neg ‹_›]
   unfold drMake2 at h ⊢
   split at h
   ·rw [if_pos ‹_›]
   ·exact absurd rfl h
theorem rd0 {D : Sgd} (x : Spt) (s : D.G.S) : drRmdir0 D (s, x, 0) = drRmdir1 D x (drKind D s x.to 1 192) := if_neg (by simp)
theorem rd1 {D : Sgd} (x : Spt) (s : D.G.S) : drRmdir1 D x (s, 0) = drRmdir2 D x (D.nms s x.to) := if_neg (by simp)
theorem rd2 {D : Sgd} (x : Spt) (s : D.G.S) : drRmdir2 D x (s, [], 0) = drRmdir3 D x.to (drAway D s x) := (if_neg (by simp)).trans (if_neg (by simp))
theorem rd3 {D : Sgd} (t : Int) (s : D.G.S) : drRmdir3 D t (s, 0) = D.rm s t := if_neg (by simp)
theorem un0 {D : Sgd} (x : Spt) (s : D.G.S) : drUnlink0 D (s, x, 0) = drUnlink1 D x (drKind D s x.to 2 193) := if_neg (by simp)
theorem un1 {D : Sgd} (x : Spt) (s : D.G.S) : drUnlink1 D x (s, 0) = drUnlink2 D x.to (drAway D s x) := if_neg (by simp)
theorem un2 {D : Sgd} (t : Int) (s : D.G.S) : drUnlink2 D t (s, 0) = drUnlink3 D (D.lk s t (-1)) := if_neg (by simp)
theorem pl_rec {n : Int} (h : n ≠ 0) : plOk (recP n) = true := by
 unfold plOk recP
 simp [h]
 try rfl
theorem rm_one {s : Sg} (iv : Iv s) {n k m : Int} (h0 : 0 < n) (hf : fdR s n = (⟨k, m, 1, 0⟩, 0)) (hx : isX s.d (recP n) = true) : (rmR s n).2 = 0 ∧ (rmR s n).1.l = s.l ∧ (rmR s n).1.d = putS s.d (goneC (recP n)) ∧ (putX s.d (goneC (recP n))).2 = 0 := by
 have hp : plOk (recP n) = true := pl_rec (by omega)
 have hg : (putX s.d (goneC (recP n))).2 = 0 := putX_gone iv.d iv.c hx hp
 have hB : (rmB s n ⟨k, m, 1, 0⟩).l = s.l ∧ (rmB s n ⟨k, m, 1, 0⟩).d = s.d := by unfold rmB; split <;> exact ⟨rfl, rfl⟩
 have hP : placesL n ⟨k, m, 1, 0⟩ = [recP n] := by
  unfold placesL
  have e : (if (⟨k, m, 1, 0⟩ : In4).k = 1 then ((⟨k, m, 1, 0⟩ : In4).s.toNat + 31) / 32 else 0) = 0 := by
   split
   ·show ((0 : Int).toNat + 31) / 32 = 0
    decide
   ·rfl
  rw [e]
  rfl
 have e0 : rmR s n = rmE (goneL (rmB s n ⟨k, m, 1, 0⟩) [recP n]) n := by
  unfold rmR
  rw [hf]
  unfold rmF
  rw [if_neg (by simp), hP]
 generalize rmB s n ⟨k, m, 1, 0⟩ = t at *
 have e1 : goneE t (recP n) = 0 := by unfold goneE; rw [hB.2]; exact hg
 have e2 : goneL t [recP n] = (gone1 t (recP n), 0) := by
  unfold goneL
  rw [if_neg (by rw [e1]; simp)]
  rfl
 rw [e0, e2]
 unfold rmE
 rw [if_neg (by simp)]
 refine ⟨rfl, hB.1, ?_, hg⟩
 show putS t.d (goneC (recP n)) = _
 rw [hB.2]
theorem fd_stale {n : Int} (h : n ≠ 0) (v : It × Bool × Int) (p : Pl) : (fdF n (aft v (goneC p))).2 = 220 := by
 have e : aft v (goneC p) = (it0, false, 0) := rfl
 rw [e]
 unfold fdF
 rw [if_neg h]
 simp

/-- What is told once it is taken away. -/
def Dn (s : Sg) (p : ByteArray) (r : Sg × Int) : Prop := r.2 = 0 ∧ (drFind DgP r.1 p).2.2 = 190 ∧ ∀ t, Vs r.1 t → (fdR t s.n).2 = 220 ∧ s.d.pus.length < t.d.pus.length
theorem dn_of {j : Nat} {s s1 s3 : Sg} (nv : Nv j s) (hj : j ≤ 40) (hl : s.l = rootL) {p : ByteArray} {k : Int} (hsp : (drSpot DgP s p).2.2 = 0) (h0 : dE s (drSpot DgP s p).2.1.ino (parN p) = 0) (md : Md s s1 (drSpot DgP s p).2.1.ino (parN p) s.n) (hf : fdR s1 s.n = (⟨k, 0, 1, 0⟩, 0)) (hpu : s.d.pus.length < s1.d.pus.length)
  (hv : Vs s1 s3) {r : Sg × Int} (hr : ∀ s4 : Sg, drAway DgP s3 ⟨(drSpot DgP s p).2.1.ino, parN p, s.n⟩ = (s4, 0) → Iv s4 → fdR s4 s.n = (⟨k, 0, 1, 0⟩, 0) → isX s4.d (recP s.n) = true → r.2 = 0 ∧ r.1.l = s4.l ∧ r.1.d = putS s4.d (goneC (recP s.n)) ∧ (putX s4.d (goneC (recP s.n))).2 = 0) : Dn s p r := by
 have m0 := nv.n0
 have m1 := nv.n1
 have mv := md.vs hv
 obtain ⟨hx, _⟩ := drSpot_ok nv.iv.d hsp
 obtain ⟨g1, _, g3, _, g5, _⟩ := spot_at hsp
 obtain ⟨_, n2⟩ := par_names g1
 have hx8 := hx.n8
 rw [g5] at hx8
 have hc : CgOk (goneC (entP (drSpot DgP s p).2.1.ino (parN p))) := goneE_ok hx.i0 hx.i1 hx8
 have hne : (drSpot DgP s p).2.1.ino ≠ 0 := dD_ne g3
 generalize hio : (drSpot DgP s p).2.1.ino = io at *
 have hpx : (putX s3.d (goneC (entP io (parN p)))).2 = 0 := putX_gone mv.rk.iv.d mv.rk.iv.c mv.px (pl_ent hne n2)
 have ha : (drWrite DgP s3 io (parN p) (goneC (entP io (parN p)))).2 = 0 := by
  have e : drWrite DgP s3 io (parN p) (goneC (entP io (parN p))) = ((drWrite DgP s3 io (parN p) (goneC (entP io (parN p)))).1, 0) := by
   unfold drWrite
   have : DgP.G.putE s3 (goneC (entP io (parN p))) = 0 := hpx
   rw [if_neg (by simpa using this)]
  rw [e]
 obtain ⟨a1, a2, a3, a4⟩ := ent_gone mv.rk.iv hc ha
 obtain ⟨v1, v2, v3, v4⟩ := wr_eff mv.rk hc rfl ha
 have hd3 : s3.d = s1.d := hv.d
 obtain ⟨s4, hs4⟩ : ∃ s4, (drWrite DgP s3 io (parN p) (goneC (entP io (parN p)))).1 = s4 := ⟨_, rfl⟩
 change Sg at s4
 rw [hs4] at a1 a2 a3 a4 v1 v2 v3 v4
 obtain ⟨r1, r2, r3, r4⟩ := hr s4 (Prod.ext hs4 ha) a3 (by rw [a2, hv.f]; exact hf) (v2 _ mv.pr)
 obtain ⟨R, re⟩ := r
 change Sg at R
 dsimp only at r1 r2 r3
 subst r1
 have hcr : CgOk (goneC (recP s.n)) := gone_ok (recP_ok (by omega) (by omega))
 have hE : ∀ a b, dE R a b = dE s a b := fun a b => by
  have e1 : dE R a b = dE s4 a b := by
   unfold dE
   rw [r2, r3, vg_p a3.d a3.c hcr, if_neg (fun q => rec_ent (plEq_iff.1 q.2))]
  rw [e1, a1]
  by_cases hq : a = io ∧ b = parN p
  ·rw [if_pos hq, hq.1, hq.2, h0]
  ·rw [if_neg hq, mv.e, if_neg hq]
 have hF : ∀ u, u ≠ s.n → fdR R u = fdR s u := fun u hu => by
  have e1 : fdR R u = fdR s4 u := by
   unfold fdR
   rw [r2, r3, vg_p a3.d a3.c hcr, if_neg (fun q => hu (by
    have e : recP s.n = recP u := plEq_iff.1 q.2
    exact (congrArg Pl.ino e).symm))]
  rw [e1, a2, mv.f u hu]
 have hS : (fdR R s.n).2 = 220 := by
  unfold fdR
  rw [r2, r3, vg_p a3.d a3.c hcr, if_pos ⟨r4, plEq_iff.2 rfl⟩]
  exact fd_stale (by omega) _ _
 have hdR : DlOk R.d := by rw [r3]; exact putS_ok a3.d hcr
 have hlR : R.l = rootL := by rw [r2]; exact v1.l
 have K : Kept s.n s R := ⟨fun a b _ => hE a b, fun u hu _ => hF u (by omega), nv.lt, by omega, hlR, hdR⟩
 refine ⟨rfl, ?_, fun t ht => ⟨by rw [ht.f]; exact hS, ?_⟩⟩
 ·have hs := spot_kept K hsp
  rw [hio] at hs
  have hz : (drSpot DgP R p).2.2 = 0 := by rw [hs]
  have hto : (drSpot DgP R p).2.1.to = 0 := by rw [hs]; show dE R io (parN p) = 0; rw [hE]; exact h0
  show (drFind DgP R p).2.2 = 190
  rw [find_spot hlR hdR hz, if_pos hto]
 ·have e1 : t.d = R.d := ht.d
  rw [e1, r3, pus_put r4, v4, hd3]
  omega

/-- All that DirMade asks. -/
theorem made_all {j : Nat} {s : Sg} (nv : Nv j s) (jv : Jv s) (hl : s.l = rootL) (hj : j ≤ 40) {p : ByteArray} {k : Int} (he : (drMake DgP s p k 0).2.2 = 0) :
  (drMake DgP s p k 0).2.1 = s.n ∧ (drFind DgP (drMake DgP s p k 0).1 p).2 = (s.n, 0) ∧ (∀ t, Vs (drMake DgP s p k 0).1 t → (drMake DgP t p k 0).2.2 = 191 ∧ Vs t (drMake DgP t p k 0).1) ∧
  (∀ t, Vs (drMake DgP s p k 0).1 t → (k = 2 → Dn s p (drRmdir DgP t p)) ∧ (k ≠ 2 → Dn s p (drUnlink DgP t p))) := by
 have rk : Rk s := ⟨hl, jv, nv.iv⟩
 have m0 := nv.n0
 have m1 := nv.n1
 obtain ⟨h1, h2, h3, md, hf, hpu, hok⟩ := make_md nv rk (by omega) he
 have K := md.kept h3 nv.lt (by omega)
 have hto : ∀ t, Vs (drMake DgP s p k 0).1 t → (drSpot DgP t p).2 = (⟨(drSpot DgP s p).2.1.ino, parN p, s.n⟩, 0) := fun t ht => by
  rw [spot_kept (K.vs (Vs.refl s) ht) h2, ht.e, md.e, if_pos ⟨rfl, rfl⟩]
 generalize (drMake DgP s p k 0).1 = s1 at *
 change Sg at s1
 refine ⟨h1, ?_, fun t ht => ?_, fun t ht => ?_⟩
 ·have e := hto s1 (Vs.refl s1)
  rw [find_spot md.rk.l md.rk.iv.d (by rw [e]), e, if_neg (by show s.n ≠ 0; omega)]
 ·have e := hto t ht
  have hz : drFree DgP t p = ((drSpot DgP t p).1, spt0, 191) := by
   unfold drFree drFree1
   rw [if_pos ⟨by rw [e], by rw [e]; show s.n ≠ 0; omega⟩]
  have hm : drMake DgP t p k 0 = ((drSpot DgP t p).1, 0, 191) := by
   unfold drMake
   rw [hz]
   exact if_pos (show (191 : Int) ≠ 0 by decide)
  rw [hm]
  exact ⟨rfl, drSpot_vs t p⟩
 ·have e := hto t ht
  have hz : drTaken DgP t p = drSpot DgP t p := by
   unfold drTaken drTaken1
   rw [if_neg (fun q => ?_)]
   have : (drSpot DgP t p).2.1.to = 0 := q.2
   rw [e] at this
   have h' : s.n = 0 := this
   omega
  obtain ⟨t1, ht1⟩ : ∃ t1, (drSpot DgP t p).1 = t1 := ⟨_, rfl⟩
  change Sg at t1
  have hz2 : drTaken DgP t p = (t1, ⟨(drSpot DgP s p).2.1.ino, parN p, s.n⟩, 0) := by rw [hz]; exact Prod.ext ht1 e
  have hv1 : Vs t t1 := by rw [← ht1]; exact drSpot_vs t p
  have hv : Vs s1 t1 := ht.trans hv1
  constructor
  ·intro hk
   subst hk
   have hk0 : drKind DgP t1 s.n 1 192 = (t1, 0) := by
    show (t1, if (fdR t1 s.n).2 ≠ 0 then (fdR t1 s.n).2 else if (fdR t1 s.n).1.k = 1 then 192 else 0) = _
    rw [hv.f, hf]
    rfl
   have hE0 : ∀ x, dE t1 s.n x = 0 := fun x => by
    rw [hv.e, md.e]
    rw [if_neg (fun q => ?_)]
    ·exact nv.fr s.n x (Int.le_refl _)
    ·have := nv.spot h2
     omega
   have rk1 := md.rk.vs hv
   have hnm : namesV t1.l t1.d s.n = [] := names_gone rk1.l rk1.iv.d rk1.iv.c (by omega) (by omega) hE0
   obtain ⟨t2, ht2⟩ : ∃ t2 : Sg, { t1 with R := addL t1.R (tcA s.n) } = t2 := ⟨_, rfl⟩
   have hv2 : Vs t1 t2 := by rw [← ht2]; exact ⟨rfl, rfl, rfl⟩
   have hnr : DgP.nms t1 s.n = (t2, [], 0) := by
    have q : nmsR t1 s.n = (t2, [], 0) := by
     unfold nmsR
     rw [hnm, ht2]
    exact q
   have e1 : drRmdir DgP t p = drRmdir3 DgP s.n (drAway DgP t2 ⟨(drSpot DgP s p).2.1.ino, parN p, s.n⟩) := by
    have w1 : drRmdir DgP t p = drRmdir1 DgP ⟨(drSpot DgP s p).2.1.ino, parN p, s.n⟩ (drKind DgP t1 s.n 1 192) := (congrArg (drRmdir0 DgP) hz2).trans (rd0 (D := DgP) _ _)
    have w2 := (congrArg (drRmdir1 DgP ⟨(drSpot DgP s p).2.1.ino, parN p, s.n⟩) hk0).trans (rd1 (D := DgP) _ _)
    have w3 := (congrArg (drRmdir2 DgP ⟨(drSpot DgP s p).2.1.ino, parN p, s.n⟩) hnr).trans (rd2 (D := DgP) _ _)
    exact w1.trans (w2.trans w3)
   rw [e1]
   refine dn_of nv hj hl h2 h3 md hf hpu (hv.trans hv2) (fun s4 ha iv4 hf4 hx4 => ?_)
   have w4 : drRmdir3 DgP s.n (drAway DgP t2 ⟨(drSpot DgP s p).2.1.ino, parN p, s.n⟩) = rmR s4 s.n := (congrArg (drRmdir3 DgP s.n) ha).trans (rd3 (D := DgP) _ _)
   rw [w4]
   exact rm_one iv4 (by omega) hf4 hx4
  ·intro hk
   have hk1 : k = 1 := by
    rcases ino_iff.1 hok with ⟨_, ⟨e, _⟩ | ⟨e, _⟩⟩
    ·first | exact e | exact absurd e hk
    ·first | exact e | exact absurd e hk
   subst hk1
   have hk0 : drKind DgP t1 s.n 2 193 = (t1, 0) := by
    show (t1, if (fdR t1 s.n).2 ≠ 0 then (fdR t1 s.n).2 else if (fdR t1 s.n).1.k = 2 then 193 else 0) = _
    rw [hv.f, hf]
    rfl
   have e1 : drUnlink DgP t p = drUnlink2 DgP s.n (drAway DgP t1 ⟨(drSpot DgP s p).2.1.ino, parN p, s.n⟩) := by
    have w1 : drUnlink DgP t p = drUnlink1 DgP ⟨(drSpot DgP s p).2.1.ino, parN p, s.n⟩ (drKind DgP t1 s.n 2 193) := (congrArg (drUnlink0 DgP) hz2).trans (un0 (D := DgP) _ _)
    exact w1.trans ((congrArg (drUnlink1 DgP ⟨(drSpot DgP s p).2.1.ino, parN p, s.n⟩) hk0).trans (un1 (D := DgP) _ _))
   rw [e1]
   refine dn_of nv hj hl h2 h3 md hf hpu hv (fun s4 ha iv4 hf4 hx4 => ?_)
   have w4 : drUnlink2 DgP s.n (drAway DgP t1 ⟨(drSpot DgP s p).2.1.ino, parN p, s.n⟩) = ((lkR s4 s.n (-1)).1, (lkR s4 s.n (-1)).2.2) := (congrArg (drUnlink2 DgP s.n) ha).trans (un2 (D := DgP) _ _)
   rw [w4]
   have e2 : lkR s4 s.n (-1) = lkE (rmR { s4 with R := addK s4.R s.n [2] } s.n) 0 := by
    unfold lkR
    rw [hf4, if_neg (by simp), if_neg (by simp)]
    unfold lkB
    rw [if_neg (by simp), if_pos (by simp)]
   have q := rm_one (s := { s4 with R := addK s4.R s.n [2] }) (iv4.same rfl rfl) (k := 1) (m := 0) (by omega) hf4 hx4
   show (lkR s4 s.n (-1)).2.2 = 0 ∧ (lkR s4 s.n (-1)).1.l = s4.l ∧ (lkR s4 s.n (-1)).1.d = putS s4.d (goneC (recP s.n)) ∧ _
   rw [e2]
   generalize rmR { s4 with R := addK s4.R s.n [2] } s.n = W at *
   unfold lkE
   rw [if_neg (by rw [q.1]; simp)]
   exact ⟨rfl, q.2.1, q.2.2.1, q.2.2.2⟩

/-- Behind a script: all that is wanted. -/
def Nl (i : Nat) (s : Sg) : Prop := Nv i s ∧ s.l = rootL
theorem nl_sc : Sc Nl where
 z := ⟨nv_0, rfl⟩
 s := fun o hi j h ho he r => ⟨nv_sc.s o hi j h.1 ho he r, r.2.l.trans h.2⟩
 b := fun o hi j h hl hd hn => ⟨nv_sc.b o hi j h.1 hl hd hn, hl.trans h.2⟩

end Go.Proofs.YtiplhhaehbjghaaGreat
