/- DrQ, DrY, DrM, DrO, DrR: in one text. -/
import Derived.Test.YtgajjphjkbnaeaaGreatQ53
namespace Go.Proofs.YtgajjphjkbnaeaaGreat
open Go.RowKit
set_option linter.unusedVariables false
set_option linter.unusedSimpArgs false
set_option maxRecDepth 4000

open Go.RowKit Go.Maps
set_option maxRecDepth 100000

theorem Pr.unD {B : Nat} {w0 w : World} {pp : Nat} {a : Sa} {s0 s : Sg} (h : Pr B w0 w pp a s) {n : Nat} (k : DgP.Kp s0 s n) (hn : n ≤ 3800) (p : ByteArray) (hp : p.size ≤ maxLen) :
  Calls Tryz.prog 14 #[.pointer (some ⟨a.s, 0, none⟩), .string p] w fun e w' => Pr B w0 w' pp a (drUnlink DgP s p).1 ∧ (e = .returned (.int .i64 (drUnlink DgP s p).2) ∧ DgP.Kp s0 (drUnlink DgP s p).1 (n + 50)) ∧ KeepN w w' :=
 h.callN (fun X hX => (unlink_g DgP_ok (s := s) hX p hp k hn).mono (fun e w' r => ⟨r.2.1, r.1, r.2.2⟩))
set_option maxRecDepth 100000

/-! ### Entries of a view that stands on the root alone -/
def dX (s : Sg) (k : Int) (x : ByteArray) : Int := (vgR s.l s.d (entP k x)).2.2
theorem pl_ent {k : Int} {x : ByteArray} (hk : k ≠ 0) (hx : nameOk x = true) : plOk (entP k x) = true := by
 unfold plOk entP
 simp [hk, hx]
theorem dX_0 {s : Sg} (hl : s.l = rootL) (hd : DlOk s.d) {k : Int} {x : ByteArray} (hk : k ≠ 0) (hx : nameOk x = true) : dX s k x = 0 := by
 have hp := pl_ent hk hx
 unfold dX vgR
 rw [hl]
 unfold isX wasX
 cases hg : getL s.d.L (entP k x) with
 | none =>
  show stE rootL (entP k x) = 0
  unfold stE
  rw [hp, if_pos rfl, base_fd hp, if_neg (by simp)]
 | some c =>
  obtain ⟨_, e⟩ := (getL_some hd.L.rise).1 hg
  show (chL rootL c).2.2 = 0
  unfold chL chR
  have h2 : c.pl.part = 2 := by rw [e]; rfl
  split
  ·rfl
  split
  ·rfl
  first | rfl | (rw [if_pos h2])
/-! ### Places of a delta -/
theorem isX_put {d : Dl} (hd : DlOk d) {c : Cg} (hc : CgOk c) {q : Pl} (h : isX d q = true) : isX (putS d c) q = true := by
 by_cases h0 : (putX d c).2 = 0
 ·have hL : (putS d c).L = setL d.L (putX d c).1 := by unfold putS; rw [if_pos h0]
  unfold isX
  rw [hL, getL_set hd.L (putX_ok hd hc) q]
  split
  ·rfl
  ·exact h
 ·rw [putS_err h0]; exact h
theorem isX_self {d : Dl} (hd : DlOk d) {c : Cg} (hc : CgOk c) (h0 : (putX d c).2 = 0) : isX (putS d c) c.pl = true := by
 have hL : (putS d c).L = setL d.L (putX d c).1 := by unfold putS; rw [if_pos h0]
 unfold isX
 rw [hL, getL_set hd.L (putX_ok hd hc) c.pl, putX_pl h0, if_pos (plEq_iff.2 rfl)]
 rfl
theorem putX_gone {d : Dl} (hd : DlOk d) (hc : CksOk d) {p : Pl} (h : isX d p = true) (hp : plOk p = true) : (putX d (goneC p)).2 = 0 := by
 unfold isX at h
 cases hg : getL d.L p with
 | none => rw [hg] at h; cases h
 | some c =>
  obtain ⟨hm, e⟩ := (getL_some hd.L.rise).1 hg
  have h1 : ckOk (goneC p) = true := by
   unfold ckOk
   rw [show (goneC p).pl = p from rfl, hp, if_pos rfl, if_pos (show (goneC p).gone = true from rfl)]
   exact cgEq_iff.2 rfl
  have h2 := hc c hm
  show (behX d (wasX d p) (isX d p) (goneC p)).2 = 0
  unfold behX
  rw [if_pos h1]
  have hw : wasX d p = c := by unfold wasX; rw [hg]; rfl
  have hi : isX d p = true := by unfold isX; rw [hg]; rfl
  rw [hi, if_pos rfl, hw]
  unfold joinX
  rw [if_pos h2, if_pos h1, if_pos (show plEq c.pl (goneC p).pl = true from plEq_iff.2 e), if_pos (show (goneC p).gone = true from rfl)]
theorem pus_put {d : Dl} {c : Cg} (h0 : (putX d c).2 = 0) : (putS d c).pus.length = d.pus.length + 1 := by
 unfold putS
 rw [if_pos h0, List.length_append]
 rfl
/-! ### What stays found -/
structure Kept (N : Int) (s s' : Sg) : Prop where
 E : ∀ a b, dE s a b ≠ 0 → dE s' a b = dE s a b
 F : ∀ u, u < N → dD s u → fdR s' u = fdR s u
 lt : ∀ a b, dE s a b < N
 one : 1 < N
 l : s'.l = rootL
 d : DlOk s'.d
theorem Kept.vs {N : Int} {s s' t t' : Sg} (h : Kept N s s') (a : Vs s t) (b : Vs s' t') : Kept N t t' := by
 refine ⟨fun p q => ?_, fun u hn hu => ?_, fun p q => by rw [a.e]; exact h.lt p q, h.one, b.l.trans h.l, by rw [b.d]; exact h.d⟩
 ·rw [a.e, b.e]; exact h.E p q
 ·rw [a.f, b.f]; exact h.F u hn (dD_of (a.f u) hu)
theorem Kept.refl {s : Sg} (hl : s.l = rootL) (hd : DlOk s.d) : Kept 4294967296 s s := ⟨fun _ _ _ => rfl, fun _ _ _ => rfl, fun a b => by have := (dE_bd hd a b).2; omega, by decide, hl, hd⟩
theorem dD_ne {s : Sg} {t : Int} (h : dD s t) : t ≠ 0 := fun e => by
 subst e
 exact absurd h.1 (by unfold fdR fdF; rw [if_pos rfl]; decide)
theorem look_kept {N : Int} {s s' : Sg} (K : Kept N s s') {t : Int} (ht : t < N) (hd : dD s t) {x : ByteArray} (hx : nameOk x = true) : (dnL s' t x).2 = (dE s' t x, 0) ∧ dnK s' t = 0 := by
 have hk : dnK s' t = 0 := by
  rw [dnK_eq, K.F t ht hd, if_neg (by simpa using hd.1), if_neg hd.2]
 refine ⟨?_, hk⟩
 rw [dnL_eq, if_neg (by simpa using hk)]
 have h0 := dX_0 K.l K.d (dD_ne hd) hx
 unfold dX at h0
 show ((vgR s'.l s'.d (entP t x)).1.lead, (vgR s'.l s'.d (entP t x)).2.2) = _
 rw [h0]
 rfl
theorem step_kept {N : Int} {s s' : Sg} (K : Kept N s s') {t : Int} (ht : t < N) {x : ByteArray} (hx : nameOk x = true) (h : (dnS s t x).2.2 = 0) : (dnS s' t x).2 = (dnS s t x).2 := by
 obtain ⟨q1, q2, q3, q4⟩ := step_good h
 obtain ⟨e, _⟩ := look_kept K ht q4 hx
 rw [K.E t x q3] at e
 have e2 : (dnS s' t x).2 = (dnL s' t x).2 := by
  rw [dnS_eq, e, if_neg (fun k => q3 k.2)]
  exact e
 rw [e2, e]
 exact Prod.ext q2.symm h.symm
theorem step_st {s : Sg} {t : Int} {x : ByteArray} : Vs s (dnS s t x).1 := by
 rw [stepS]
 split
 ·exact Vs.refl s
 ·exact ⟨rfl, rfl, rfl⟩
theorem down_kept : ∀ (ns : List ByteArray) {N : Int} {s s' : Sg}, Kept N s s' → ∀ {t : Int}, t < N → (∀ x ∈ ns, nameOk x = true) → (dnD ns s t).2.2 = 0 → (dnD ns s' t).2 = (dnD ns s t).2
 | [], N, s, s', K, t, ht, hn, h => rfl
 | x :: ns, N, s, s', K, t, ht, hn, h => by
  rw [dnD_eq] at h ⊢
  rw [dnD_eq]
  by_cases hc : (dnS s t x).2.2 ≠ 0
  ·rw [if_pos hc] at h; exact absurd h hc
  rw [if_neg hc] at h ⊢
  have e := step_kept K ht (hn x List.mem_cons_self) (Decidable.not_not.1 hc)
  rw [e, if_neg hc]
  obtain ⟨_, g2, _, _⟩ := step_good (Decidable.not_not.1 hc)
  exact down_kept ns (K.vs step_st step_st) (by rw [g2]; exact K.lt t x) (fun y hy => hn y (List.mem_cons_of_mem _ hy)) h
theorem down_app : ∀ (ns ms : List ByteArray) (s : Sg) (t : Int), (dnD ns s t).2.2 = 0 → dnD (ns ++ ms) s t = dnD ms (dnD ns s t).1 (dnD ns s t).2.1
 | [], ms, s, t, h => rfl
 | x :: ns, ms, s, t, h => by
  rw [List.cons_append, dnD_eq]
  rw [dnD_eq] at h ⊢
  by_cases hc : (dnS s t x).2.2 ≠ 0
  ·rw [if_pos hc] at h; exact absurd h hc
  rw [if_neg hc] at h
  rw [if_neg hc, if_neg hc]
  exact down_app ns ms _ _ h
theorem par_sp {p : ByteArray} (h : parE p = 0) : pathE p = 0 ∧ pathL p = parL p ++ [parN p] := ⟨(par_split h).1, (par_split h).2.symm⟩
theorem par_names {p : ByteArray} (h : parE p = 0) : (∀ x ∈ parL p, nameOk x = true) ∧ nameOk (parN p) = true := by
 obtain ⟨h1, h2⟩ := par_sp h
 have h3 := path_names h1
 rw [h2] at h3
 exact ⟨fun x hx => h3 x (List.mem_append_left _ hx), h3 _ (List.mem_append_right _ List.mem_cons_self)⟩
/-- A place that is found: where it stands. -/
theorem spot_at {s : Sg} {p : ByteArray} (h : (drSpot DgP s p).2.2 = 0) : parE p = 0 ∧ (dnD (parL p) s 1).2.2 = 0 ∧ dD s (drSpot DgP s p).2.1.ino ∧ (drSpot DgP s p).2.1.ino = (dnD (parL p) s 1).2.1 ∧ (drSpot DgP s p).2.1.name = parN p ∧ (drSpot DgP s p).2.1.to = dE s (drSpot DgP s p).2.1.ino (parN p) := by
 obtain ⟨h0, h1, h2, e⟩ := drSpot_cases (D := DgP) h
 obtain ⟨e1, e2⟩ := drLook_E h2
 have hv := drDown_vs (parL p) s 1
 refine ⟨h0, h1, ?_, by rw [e]; rfl, by rw [e], ?_⟩
 ·rw [e]; exact dD_of (hv.f _) e2
 ·rw [e]
  exact e1.trans (hv.e _ _)
theorem spot_kept {N : Int} {s s' : Sg} (K : Kept N s s') {p : ByteArray} (h : (drSpot DgP s p).2.2 = 0) : (drSpot DgP s' p).2 = (⟨(drSpot DgP s p).2.1.ino, parN p, dE s' (drSpot DgP s p).2.1.ino (parN p)⟩, 0) := by
 obtain ⟨h0, h1, h2, h3, h4, h5⟩ := spot_at h
 obtain ⟨n1, n2⟩ := par_names h0
 have hd := down_kept (parL p) K (t := 1) K.one n1 h1
 have hio : (drSpot DgP s p).2.1.ino < N := by
  rcases drSpot_in h with e | ⟨k, x, e⟩
  ·rw [e]; exact K.one
  ·rw [e]; exact K.lt k x
 have hv : Vs s' (dnD (parL p) s' 1).1 := drDown_vs (parL p) s' 1
 have hv0 : Vs s (dnD (parL p) s 1).1 := drDown_vs (parL p) s 1
 have hl := (look_kept (K.vs (Vs.refl s) hv) (t := (drSpot DgP s p).2.1.ino) hio h2 n2).1
 rw [hv.e] at hl
 have e1 : drSpot DgP s' p = drSpot1 DgP (parN p) (dnD (parL p) s' 1) := if_neg (by simpa using h0)
 have e2 : drSpot1 DgP (parN p) (dnD (parL p) s' 1) = drSpot2 DgP (dnD (parL p) s' 1).2.1 (parN p) (dnL (dnD (parL p) s' 1).1 (dnD (parL p) s' 1).2.1 (parN p)) := if_neg (by rw [hd, h1]; simp)
 have e3 : (dnD (parL p) s' 1).2.1 = (drSpot DgP s p).2.1.ino := by rw [hd, h3]
 rw [e1, e2, e3]
 have e4 : drSpot2 DgP (drSpot DgP s p).2.1.ino (parN p) (dnL (dnD (parL p) s' 1).1 (drSpot DgP s p).2.1.ino (parN p)) = ((dnL (dnD (parL p) s' 1).1 (drSpot DgP s p).2.1.ino (parN p)).1, ⟨(drSpot DgP s p).2.1.ino, parN p, (dnL (dnD (parL p) s' 1).1 (drSpot DgP s p).2.1.ino (parN p)).2.1⟩, 0) := if_neg (by rw [hl]; simp)
 rw [e4, hl]
theorem find_spot {s : Sg} (hl : s.l = rootL) (hd : DlOk s.d) {p : ByteArray} (h : (drSpot DgP s p).2.2 = 0) : (drFind DgP s p).2 = if (drSpot DgP s p).2.1.to = 0 then (0, 190) else ((drSpot DgP s p).2.1.to, 0) := by
 obtain ⟨h0, h1, h2, h3, h4, h5⟩ := spot_at h
 obtain ⟨g1, g2⟩ := par_sp h0
 obtain ⟨n1, n2⟩ := par_names h0
 have hv : Vs s (dnD (parL p) s 1).1 := drDown_vs (parL p) s 1
 have e1 : (drFind DgP s p).2 = (dnD (pathL p) s 1).2 := congrArg Prod.snd (if_neg (by simpa using g1))
 rw [e1, g2, down_app (parL p) [parN p] s 1 h1, ← h3]
 have hk := (look_kept ((Kept.refl hl hd).vs (Vs.refl s) hv) (t := (drSpot DgP s p).2.1.ino) (by have := (drSpot_ok hd h).1.i1; omega) h2 n2).1
 rw [hv.e, ← h5] at hk
 generalize (drSpot DgP s p).2.1.ino = io at *
 generalize (drSpot DgP s p).2.1.to = tt at *
 generalize (dnD (parL p) s 1).1 = S at *
 rw [dnD_eq]
 by_cases ht : tt = 0
 ·have e2 : (dnS S io (parN p)).2 = (0, 190) := by
   rw [dnS_eq, hk, if_pos ⟨rfl, ht⟩]
  rw [e2, if_pos (by decide), if_pos ht]
 ·have e2 : (dnS S io (parN p)).2 = (tt, 0) := by
   rw [dnS_eq, hk, if_neg (fun q => ht q.2), hk]
  rw [e2, if_neg (by simp), if_neg ht]
  rfl

set_option maxRecDepth 100000

/-- What a state has that stands on the root alone. -/
structure Rk (s : Sg) : Prop where
 l : s.l = rootL
 j : Jv s
 iv : Iv s
theorem Rk.vs {s t : Sg} (h : Rk s) (v : Vs s t) : Rk t := ⟨v.l.trans h.l, h.j.back v.l v.d, h.iv.same v.l v.d⟩
/-- An entry that is written. -/
theorem wr_eff {s : Sg} (h : Rk s) {ino : Int} {name : ByteArray} {c : Cg} (hc : CgOk c) (hp : c.pl = entP ino name) (h0 : (drWrite DgP s ino name c).2 = 0) :
  Rk (drWrite DgP s ino name c).1 ∧ (∀ q, isX s.d q = true → isX (drWrite DgP s ino name c).1.d q = true) ∧ isX (drWrite DgP s ino name c).1.d (entP ino name) = true ∧ (drWrite DgP s ino name c).1.d.pus.length = s.d.pus.length + 1 := by
 obtain ⟨h1, e⟩ := dw_ok h0
 have hj := dw_jv h.j hc h0
 rw [e] at hj ⊢
 refine ⟨⟨h.l, hj, (h.iv.ent hc (by rw [hp]; rfl)).same rfl rfl⟩, fun q hq => isX_put h.iv.d hc hq, ?_, pus_put h1⟩
 have := isX_self h.iv.d hc h1
 rw [hp] at this
 exact this

/-- What a call has made. -/
structure Md (s s' : Sg) (io : Int) (x : ByteArray) (t : Int) : Prop where
 rk : Rk s'
 e : ∀ a b, dE s' a b = if a = io ∧ b = x then t else dE s a b
 f : ∀ u, u ≠ t → fdR s' u = fdR s u
 px : isX s'.d (entP io x) = true
 pr : isX s'.d (recP t) = true
theorem Md.kept {s s' : Sg} {io t : Int} {x : ByteArray} (h : Md s s' io x t) (h0 : dE s io x = 0) (hlt : ∀ a b, dE s a b < t) (h1 : 1 < t) : Kept t s s' := by
 refine ⟨fun a b hn => ?_, fun u hn _ => h.f u (by omega), hlt, h1, h.rk.l, h.rk.iv.d⟩
 rw [h.e, if_neg (fun q => hn (by rw [q.1, q.2]; exact h0))]
theorem Md.vs {s s' s'' : Sg} {io t : Int} {x : ByteArray} (h : Md s s' io x t) (v : Vs s' s'') : Md s s'' io x t :=
 ⟨h.rk.vs v, fun a b => by rw [v.e]; exact h.e a b, fun u hu => by rw [v.f]; exact h.f u hu, by rw [v.d]; exact h.px, by rw [v.d]; exact h.pr⟩

theorem spot_free {s : Sg} {p : ByteArray} (h : (drFree DgP s p).2.2 = 0) : (drSpot DgP s p).2.2 = 0 ∧ (drSpot DgP s p).2.1.to = 0 ∧ drFree DgP s p = drSpot DgP s p := by
 obtain ⟨h1, e⟩ := drFree_cases (D := DgP) h
 refine ⟨h1, ?_, e⟩
 have h' : (drFree1 DgP (drSpot DgP s p)).2.2 = 0 := h
 unfold drFree1 at h'
 by_cases hc : (drSpot DgP s p).2.1.to = 0
 ·exact hc
 ·rw [if_pos ⟨h1, hc⟩] at h'; exact absurd h' (show ¬ (191 : Int) = 0 by decide)
set_option maxRecDepth 100000

theorem un0 {D : Sgd} (x : Spt) (s : D.G.S) : drUnlink0 D (s, x, 0) = drUnlink1 D x (drKind D s x.to 2 193) := if_neg (by simp)
theorem un1 {D : Sgd} (x : Spt) (s : D.G.S) : drUnlink1 D x (s, 0) = drUnlink2 D x.to (drAway D s x) := if_neg (by simp)
theorem un2 {D : Sgd} (t : Int) (s : D.G.S) : drUnlink2 D t (s, 0) = drUnlink3 D (D.lk s t (-1)) := if_neg (by simp)
theorem pl_rec {n : Int} (h : n ≠ 0) : plOk (recP n) = true := by
 unfold plOk recP
 simp [h]
 try rfl
/-- Behind a script: all that is wanted. -/
def Nl (i : Nat) (s : Sg) : Prop := Nv i s ∧ s.l = rootL
theorem nl_sc : Sc Nl where
 z := ⟨nv_0, rfl⟩
 s := fun o hi j h ho he r => ⟨nv_sc.s o hi j h.1 ho he r, r.2.l.trans h.2⟩
 b := fun o hi j h hl hd hn => ⟨nv_sc.b o hi j h.1 hl hd hn, hl.trans h.2⟩

set_option maxRecDepth 100000

/-- Links that are put. -/
def lC (t L : Int) : Cg := fieldsC (recP t) 2 0 0 L 0
theorem lC_ok {t L : Int} (h0 : 0 ≤ t) (h1 : t ≤ 4294967295) (hL : 1 ≤ L ∧ L ≤ 15) : CgOk (lC t L) :=
 ⟨recP_ok h0 h1, by simp [lC, fieldsC], by simp [lC, fieldsC], ⟨by simp [lC, fieldsC], by simp [lC, fieldsC], by simp [lC, fieldsC], by simp [lC, fieldsC], by simp only [lC, fieldsC]; omega, by simp only [lC, fieldsC]; omega, by simp [lC, fieldsC], by simp [lC, fieldsC]⟩, by simp [lC, fieldsC], by simp [lC, fieldsC], pt0_ok⟩
theorem lC_m (t L m : Int) : wM (lC t L) m = m := if_neg (by show ¬ bF 2 1 = true; decide)
theorem lC_l (t L l : Int) : wL (lC t L) l = L := if_pos (by show bF 2 2 = true; decide)
theorem lC_s (t L z : Int) : wS (lC t L) z = z := if_neg (by show ¬ bF 2 4 = true; decide)
theorem lC_ck {t L : Int} (ht : t ≠ 0) (hL : 1 ≤ L ∧ L ≤ 15) : ckOk (lC t L) = true := by
 unfold ckOk
 rw [show (lC t L).pl = recP t from rfl, if_pos (pl_rec ht), show (lC t L).gone = false from rfl, if_neg (by simp), if_pos (show (recP t).part = 1 from rfl)]
 unfold recOk
 rw [show (lC t L).fresh = false from rfl, if_neg (by simp)]
 unfold fieldsOk
 rw [lC_m, lC_l, lC_s, lC_l, show (lC t L).fields = 2 from rfl, if_neg (by decide), if_neg (by decide)]
 have e : (lC t L) = fieldsC (lC t L).pl 2 0 0 L 0 := rfl
 rw [← e, cgEq_self, ino_iff.2 ⟨by omega, .inl ⟨rfl, hL.1, hL.2, by omega, by omega⟩⟩]
 rfl
theorem put_l {d : Dl} (hd : DlOk d) (hc : CksOk d) {t L : Int} (ht : t ≠ 0) (hi : isX d (recP t) = true) (hg : (wasX d (recP t)).gone = false) (hk : (wasX d (recP t)).fresh = true → (wasX d (recP t)).kind = 1) (hL : 1 ≤ L ∧ L ≤ 15) : (putX d (lC t L)).2 = 0 := by
 have hck := lC_ck ht hL
 cases hgl : getL d.L (recP t) with
 | none => unfold isX at hi; rw [hgl] at hi; cases hi
 | some a =>
  obtain ⟨hm, hpl⟩ := (getL_some hd.L.rise).1 hgl
  have hw : wasX d (recP t) = a := by unfold wasX; rw [hgl]; rfl
  rw [hw] at hg hk
  have ha := hc a hm
  have hra : recOk a = true := by
   have h := ha
   unfold ckOk at h
   rw [hpl, if_pos (pl_rec ht), hg, if_neg (by simp), if_pos (show (recP t).part = 1 from rfl)] at h
   exact h
  have hrj : recOk (recJ a (lC t L)) = true := by
   unfold recOk at hra
   cases hf : a.fresh with
   | true =>
    rw [hf, if_pos rfl] at hra
    simp only [Bool.and_eq_true] at hra
    obtain ⟨q1, q2⟩ := hra
    have e1 := cgEq_iff.1 q1
    have hk1 := hk hf
    obtain ⟨b1, b2⟩ := ino_iff.1 q2
    have e2 : recJ a (lC t L) = freshC a.pl a.kind a.mode L a.size := by
     unfold recJ
     rw [hf, if_pos rfl]
     unfold recI
     rw [lC_m, lC_l, lC_s]
     rw [e1]
     rfl
    rw [e2]
    unfold recOk
    rw [show (freshC a.pl a.kind a.mode L a.size).fresh = true from rfl, if_pos rfl]
    show (cgEq (freshC a.pl a.kind a.mode L a.size) (freshC a.pl a.kind a.mode L a.size) && inoOk a.kind a.mode L a.size) = true
    rw [cgEq_self, hk1, ino_iff.2 ⟨b1, .inl ⟨rfl, hL.1, hL.2, by
     rcases b2 with ⟨_, _, _, q⟩ | ⟨q, _⟩
     ·exact q
     ·omega⟩⟩]
    rfl
   | false =>
    rw [hf, if_neg (by simp)] at hra
    obtain ⟨hb, he⟩ := fields_bd hra
    have hio : inoOk 1 (wM a 0) (wL a 1) (wS a 0) = true := by
     unfold fieldsOk at hra
     rw [if_neg (by omega), if_neg (by omega)] at hra
     simp only [Bool.and_eq_true] at hra
     exact hra.2
    obtain ⟨b1, b2⟩ := ino_iff.1 hio
    obtain ⟨⟨o0, o1⟩, o2, o3, o4⟩ := orF_bit hb (g := 2) (by decide)
    have e2 : recJ a (lC t L) = fieldsC a.pl (orF a.fields 2) 0 (wM a 0) L (wS a 0) := by
     unfold recJ
     rw [hf, if_neg (by simp)]
     unfold recI
     rw [lC_m, lC_l, lC_s, show (lC t L).fields = 2 from rfl]
     generalize wM a 0 = x at *
     generalize wL a 0 = y at *
     generalize wS a 0 = z at *
     rw [he]
     rfl
    rw [e2]
    unfold recOk
    rw [show (fieldsC a.pl (orF a.fields 2) 0 (wM a 0) L (wS a 0)).fresh = false from rfl, if_neg (by simp)]
    have f1 : wM (fieldsC a.pl (orF a.fields 2) 0 (wM a 0) L (wS a 0)) 0 = wM a 0 := by
     show (if bF (orF a.fields 2) 1 = true then wM a 0 else 0) = wM a 0
     rw [o2]
     unfold wM
     cases hq : bF a.fields 1
     ·rfl
     ·rfl
    have f2 : ∀ v, wL (fieldsC a.pl (orF a.fields 2) 0 (wM a 0) L (wS a 0)) v = L := fun v => by
     show (if bF (orF a.fields 2) 2 = true then L else v) = L
     rw [o3, show bF 2 2 = true by decide, Bool.or_true, if_pos rfl]
    have f3 : wS (fieldsC a.pl (orF a.fields 2) 0 (wM a 0) L (wS a 0)) 0 = wS a 0 := by
     show (if bF (orF a.fields 2) 4 = true then wS a 0 else 0) = wS a 0
     rw [o4]
     unfold wS
     cases hq : bF a.fields 4
     ·rfl
     ·rfl
    unfold fieldsOk
    rw [f1, f2, f2, f3]
    show (if orF a.fields 2 < 1 then false else if orF a.fields 2 > 7 then false else cgEq (fieldsC a.pl (orF a.fields 2) 0 (wM a 0) L (wS a 0)) (fieldsC a.pl (orF a.fields 2) 0 (wM a 0) L (wS a 0)) && inoOk 1 (wM a 0) L (wS a 0)) = true
    rw [if_neg (by omega), if_neg (by omega), cgEq_self, ino_iff.2 ⟨b1, .inl ⟨rfl, hL.1, hL.2, by
     rcases b2 with ⟨_, _, _, q⟩ | ⟨q, _⟩
     ·exact q
     ·omega⟩⟩]
    rfl
  have e0 : putX d (lC t L) = joinX a (lC t L) := by
   show behX d (wasX d (recP t)) (isX d (recP t)) (lC t L) = _
   unfold behX
   rw [if_pos hck, hi, if_pos rfl, hw]
  rw [e0]
  unfold joinX
  rw [if_pos ha, if_pos hck, if_pos (show plEq a.pl (lC t L).pl = true from plEq_iff.2 hpl), show (lC t L).gone = false from rfl, if_neg (by simp), if_pos (show (lC t L).pl.part = 1 from rfl)]
  unfold jRX
  rw [show (lC t L).fresh = false from rfl, if_neg (by simp), hg, if_neg (by simp), if_pos hrj]

/-! ### What is found -/
theorem fd_inv {t : Int} {v : It × Bool × Int} {i : In4} (h : fdF t v = (i, 0)) : t ≠ 0 ∧ v.2.2 = 0 ∧ v.2.1 = true ∧ i = ⟨v.1.kind, v.1.mode, v.1.links, v.1.size⟩ := by
 unfold fdF at h
 by_cases ht : t = 0
 ·rw [if_pos ht] at h; cases h
 rw [if_neg ht] at h
 by_cases hv : v.2.2 ≠ 0
 ·rw [if_pos hv] at h
  exact absurd (congrArg Prod.snd h) hv
 rw [if_neg hv] at h
 cases hb : v.2.1 with
 | false => rw [hb, if_neg (by simp)] at h; cases h
 | true =>
  rw [hb, if_pos rfl] at h
  exact ⟨ht, Decidable.not_not.1 hv, rfl, (congrArg Prod.fst h).symm⟩
theorem was_of {s : Sg} {t k m l z : Int} (hf : fdR s t = (⟨k, m, l, z⟩, 0)) (hi : isX s.d (recP t) = true) : (wasX s.d (recP t)).gone = false ∧ ((wasX s.d (recP t)).fresh = true → (wasX s.d (recP t)).kind = k) := by
 obtain ⟨h1, h2, h3, h4⟩ := fd_inv hf
 unfold vgR at h3 h4
 rw [hi, if_pos rfl] at h3 h4
 unfold chL chR at h3 h4
 cases hg : (wasX s.d (recP t)).gone with
 | true => rw [hg, if_pos rfl] at h3; cases h3
 | false =>
  refine ⟨rfl, fun hfr => ?_⟩
  rw [hg, if_neg (by simp), if_pos hfr] at h4
  exact (congrArg In4.k h4).symm
theorem wf_l (i : In4) (L : Int) : wfR i [(2, L)] = (⟨i.k, i.m, L, i.s⟩, 2, true) := by
 unfold wfR wfL
 simp [wf1, show (bits BinOp.and .i64 0 2) = 0 by decide, show bits BinOp.or .i64 0 2 = 2 by decide]
theorem set_e {s : Sg} {t m l z L : Int} (hf : fdR s t = (⟨1, m, l, z⟩, 0)) : setR s t [(2, L)] = if inoOk 1 m L z = false then (s, 1) else if (putX s.d (lC t L)).2 ≠ 0 then ({ s with d := putS s.d (lC t L) }, (putX s.d (lC t L)).2) else ({ s with d := putS s.d (lC t L), U := addK s.U t (kindsL 2) }, 0) := by
 unfold setR
 rw [hf, wf_l, wf_l]
 unfold setF
 rw [if_neg (by simp)]
 show (if (true && inoOk 1 m L z) = false then _ else if (2 : Int) = 0 then _ else _) = _
 rw [Bool.true_and, if_neg (show ¬ (2 : Int) = 0 by decide)]
 rfl
theorem fd_set {s t' : Sg} (iv : Iv s) {t m l z L : Int} (h0 : 0 ≤ t) (h1 : t ≤ 4294967295) (hf : fdR s t = (⟨1, m, l, z⟩, 0)) (hL : 1 ≤ L ∧ L ≤ 15) (hp : (putX s.d (lC t L)).2 = 0) (el : t'.l = s.l) (ed : t'.d = putS s.d (lC t L)) : fdR t' t = (⟨1, m, L, z⟩, 0) := by
 obtain ⟨q1, q2, q3, q4⟩ := fd_inv hf
 unfold fdR
 rw [el, ed, vg_p iv.d iv.c (lC_ok h0 h1 hL), if_pos ⟨hp, plEq_iff.2 rfl⟩]
 show fdF t (aft (vgR s.l s.d (recP t)) (lC t L)) = _
 generalize vgR s.l s.d (recP t) = v at *
 obtain ⟨x, b, e⟩ := v
 dsimp only at q2 q3 q4
 subst q2 q3
 have hA : refA (lC t L) = false := rfl
 rw [aft_on hA rfl]
 have e1 : refW x true (lC t L) = (⟨x.kind, wM (lC t L) x.mode, wL (lC t L) x.links, wS (lC t L) x.size, x.lead, x.bytes⟩, true, 0) := rfl
 show fdF t (refW x true (lC t L)) = _
 rw [e1, lC_m, lC_l, lC_s]
 simp only [In4.mk.injEq] at q4
 obtain ⟨k1, rfl, rfl, rfl⟩ := q4
 unfold fdF
 rw [if_neg q1, if_neg (by simp), if_pos rfl, k1]

/-! ### Links counted -/
theorem lk_e {s : Sg} {t m l z y : Int} (hf : fdR s t = (⟨1, m, l, z⟩, 0)) (hb : 1 ≤ l + y ∧ l + y ≤ 15) (hy : y ≠ 0) : lkR s t y = lkE (setR { s with R := addK s.R t [2] } t [(2, l + y)]) (l + y) := by
 unfold lkR
 rw [hf, if_neg (by simp), if_neg (by simp)]
 unfold lkB
 dsimp only
 rw [if_neg (by omega), if_neg (by omega), if_neg hy]
theorem lk_can {s : Sg} (iv : Iv s) {t m l z y : Int} (h0 : 0 ≤ t) (h1 : t ≤ 4294967295) (hf : fdR s t = (⟨1, m, l, z⟩, 0)) (hb : 1 ≤ l + y ∧ l + y ≤ 15) (hy : y ≠ 0) (hp : (putX s.d (lC t (l + y))).2 = 0) : (lkR s t y).2.2 = 0 ∧ (lkR s t y).1.l = s.l ∧ (lkR s t y).1.d = putS s.d (lC t (l + y)) ∧ fdR (lkR s t y).1 t = (⟨1, m, l + y, z⟩, 0) := by
 have hok : inoOk 1 m (l + y) z = true := by
  have h : (fdR s t).2 = 0 := by rw [hf]
  have q := iv.ok t h
  rw [hf] at q
  obtain ⟨b1, b2⟩ := ino_iff.1 q
  refine ino_iff.2 ⟨b1, .inl ⟨rfl, hb.1, hb.2, ?_⟩⟩
  rcases b2 with ⟨_, _, _, q⟩ | ⟨q, _⟩
  ·exact q
  ·exact absurd q (show ¬ (1 : Int) = 2 by decide)
 have e1 := set_e (s := { s with R := addK s.R t [2] }) (L := l + y) hf
 rw [if_neg (by rw [hok]; simp), if_neg (by show ¬ (putX s.d (lC t (l + y))).2 ≠ 0; rw [hp]; simp)] at e1
 rw [lk_e hf hb hy, e1]
 unfold lkE
 rw [if_neg (by simp)]
 exact ⟨rfl, rfl, rfl, fd_set iv h0 h1 hf hb hp rfl rfl⟩
theorem lk_was {s : Sg} {t m l z : Int} (hl : 1 ≤ l) (hf : fdR s t = (⟨1, m, l, z⟩, 0)) (h : (lkR s t 1).2.2 = 0) : l + 1 ≤ 15 ∧ (putX s.d (lC t (l + 1))).2 = 0 := by
 by_cases hb : l + 1 ≤ 15
 case neg =>
  exfalso
  have e : lkR s t 1 = ({ s with R := addK s.R t [2] }, 0, 170) := by
   unfold lkR
   rw [hf, if_neg (by simp), if_neg (by simp)]
   unfold lkB
   dsimp only
   rw [if_pos (by omega)]
  rw [e] at h
  exact absurd h (show ¬ (170 : Int) = 0 by decide)
 refine ⟨hb, Decidable.by_contra fun hp => ?_⟩
 have e1 := set_e (s := { s with R := addK s.R t [2] }) (L := l + 1) hf
 rw [lk_e hf ⟨by omega, hb⟩ (by decide), e1] at h
 have hp' : (putX ({ s with R := addK s.R t [2] } : Sg).d (lC t (l + 1))).2 ≠ 0 := hp
 by_cases hi : inoOk 1 m (l + 1) z = false
 ·rw [if_pos hi] at h
  exact absurd h (show ¬ (1 : Int) = 0 by decide)
 ·rw [if_neg hi, if_pos hp'] at h
  unfold lkE at h
  rw [if_pos hp'] at h
  exact hp' h

/-! ### Reading leaves what is found -/
theorem Vs.symm {s t : Sg} (h : Vs s t) : Vs t s := ⟨h.l.symm, h.d.symm, h.n.symm⟩
theorem downs_vs : ∀ (ns : List ByteArray) {s s' : Sg}, Vs s s' → ∀ t : Int, (dnD ns s' t).2 = (dnD ns s t).2
 | [], s, s', h, t => rfl
 | x :: ns, s, s', h, t => by
  rw [dnD_eq, dnD_eq, step_vs h]
  by_cases hc : (dnS s t x).2.2 ≠ 0
  ·rw [if_pos hc, if_pos hc]
  ·rw [if_neg hc, if_neg hc]
   exact downs_vs ns ((step_st (s := s) (t := t) (x := x)).symm.trans (h.trans (step_st (s := s') (t := t) (x := x)))) _
theorem find_vs {s s' : Sg} (h : Vs s s') (p : ByteArray) : (drFind DgP s' p).2 = (drFind DgP s p).2 := by
 unfold drFind
 by_cases hE : pathE p ≠ 0
 ·rw [if_pos hE, if_pos hE]
 ·rw [if_neg hE, if_neg hE]
  exact downs_vs _ h 1

/-- An entry that was made is taken away. -/
theorem away_ok {s s1 s3 : Sg} {p : ByteArray} {io t : Int} (md : Md s s1 io (parN p) t) (hne : io ≠ 0) (n2 : nameOk (parN p) = true) (i0 : 0 ≤ io) (i1 : io ≤ 4294967295) (n8 : (parN p).size ≤ 8) (hv : Vs s1 s3) :
  ∃ s4 : Sg, drAway DgP s3 ⟨io, parN p, t⟩ = (s4, 0) ∧ Iv s4 ∧ (∀ u, fdR s4 u = fdR s1 u) ∧ isX s4.d (recP t) = true := by
 have mv := md.vs hv
 have hc : CgOk (goneC (entP io (parN p))) := goneE_ok i0 i1 n8
 have hpx : (putX s3.d (goneC (entP io (parN p)))).2 = 0 := putX_gone mv.rk.iv.d mv.rk.iv.c mv.px (pl_ent hne n2)
 have ha : (drWrite DgP s3 io (parN p) (goneC (entP io (parN p)))).2 = 0 := by
  unfold drWrite
  have : DgP.G.putE s3 (goneC (entP io (parN p))) = 0 := hpx
  rw [if_neg (by simpa using this)]
 obtain ⟨a1, a2, a3, a4⟩ := ent_gone mv.rk.iv hc ha
 obtain ⟨v1, v2, v3, v4⟩ := wr_eff mv.rk hc rfl ha
 exact ⟨_, Prod.ext rfl ha, a3, fun u => (by show fdR (drWrite DgP s3 io (parN p) (goneC (entP io (parN p)))).1 u = _; rw [a2, hv.f]), v2 _ mv.pr⟩

/-- What Link makes. -/
theorem link_md {j : Nat} {s : Sg} (nv : Nv j s) (rk : Rk s) (hj : j ≤ 40) {old p : ByteArray} (he : (drLink DgP s old p).2 = 0) :
  ∃ ino m l z, (drFind DgP s old).2 = (ino, 0) ∧ 2 ≤ ino ∧ ino < s.n ∧ fdR s ino = (⟨1, m, l, z⟩, 0) ∧ 1 ≤ l ∧ l + 1 ≤ 15 ∧ (drSpot DgP s p).2.2 = 0 ∧ dE s (drSpot DgP s p).2.1.ino (parN p) = 0 ∧ Md s (drLink DgP s old p).1 (drSpot DgP s p).2.1.ino (parN p) ino ∧ fdR (drLink DgP s old p).1 ino = (⟨1, m, l + 1, z⟩, 0) := by
 obtain ⟨s1, ino, s2, x, s3, y, hf, hk, hg, hl, hs, e⟩ := lk_cases (D := DgP) he
 rw [e]
 have m1 := nv.n1
 have hv1 := drFind_vs s old
 have hin := drFind_E (s := s) (p := old) (by rw [hf])
 rw [hf] at hv1 hin
 obtain ⟨k1, k2⟩ := drKind_0 (by decide) hk
 dsimp only at hv1 hin
 rw [hv1.f] at k1 k2
 have hk1 : (fdR s ino).1.k = 1 := by rcases nv.kd k1 with e | e; exact e; exact absurd e k2
 have hlt : ino < s.n ∧ ino ≠ 1 := by
  rcases hin with e1 | ⟨a, b, e1⟩
  ·exfalso; rw [e1] at hk1; exact nv.rt.2 hk1
  ·rw [e1]; exact ⟨nv.lt a b, nv.r1 a b⟩
 have hge : 0 ≤ ino := by
  rcases hin with e1 | ⟨a, b, e1⟩
  ·rw [e1]; decide
  ·rw [e1]; exact (dE_bd nv.iv.d a b).1
 have h0 : ino ≠ 0 := drFind_ne DgP s old (by rw [hf]) |> fun q => by rw [hf] at q; exact q
 obtain ⟨⟨k, m, l, z⟩, hi⟩ : ∃ i, (fdR s ino).1 = i := ⟨_, rfl⟩
 rw [hi] at hk1
 have hk1' : k = 1 := hk1
 subst hk1'
 have hfd : fdR s ino = (⟨1, m, l, z⟩, 0) := Prod.ext hi k1
 have hbd := nv.iv.ok ino k1
 rw [hi] at hbd
 obtain ⟨b1, b2⟩ := ino_iff.1 hbd
 have hl1 : 1 ≤ l := by
  rcases b2 with ⟨_, q, _⟩ | ⟨q, _⟩
  ·exact q
  ·exact absurd q (show ¬ (1 : Int) = 2 by decide)
 have hg' : drFree DgP s1 p = (s2, x, 0) := hg
 obtain ⟨g1, g2, g3⟩ := spot_free (s := s1) (p := p) (by rw [hg'])
 obtain ⟨_, _, _, _, g4, g5⟩ := spot_at g1
 have hx := drFree_ok (s := s1) (by rw [hv1.d]; exact nv.iv.d) (p := p) (by rw [hg'])
 have hv2 := drFree_vs s1 p
 have K : Kept 4294967296 s1 s := (Kept.refl rk.l rk.iv.d).vs hv1 (Vs.refl s)
 have hsp := spot_kept K g1
 rw [hg'] at g3 hx hv2
 have ex : (drSpot DgP s1 p).2.1 = x := by rw [← g3]
 rw [ex] at hsp g2 g4 g5
 dsimp only at hx hv2
 have hv := hv1.trans hv2
 have rk2 := rk.vs hv
 have hfd2 : fdR s2 ino = (⟨1, m, l, z⟩, 0) := by rw [hv.f]; exact hfd
 have hl' : lkR s2 ino 1 = (s3, y, 0) := hl
 obtain ⟨hb, hp⟩ := lk_was hl1 hfd2 (by rw [hl'])
 obtain ⟨c1, c2, c3, c4⟩ := lk_can rk2.iv hge (by omega) hfd2 ⟨by omega, hb⟩ (by decide) hp
 rw [hl'] at c2 c3 c4
 dsimp only at c2 c3 c4
 change Sg at s3
 have L := (Lk.refl ino s2).link (y := 1) rk2.j hge (by omega)
 have iv3 := rk2.iv.link ino hge (by omega) 1
 rw [hl'] at L iv3
 dsimp only at L iv3
 have hlc := lC_ok (t := ino) (L := l + 1) hge (by omega) ⟨by omega, hb⟩
 have rk3 : Rk s3 := by
  refine ⟨c2.trans rk2.l, ?_, iv3⟩
  exact (Jv_cl.put rk2.j hlc).back c2 c3
 have hc : CgOk (toC x.ino x.name ino) := toC_ok hx.i0 hx.i1 hx.n8 hge (by omega)
 have hs' : (drWrite DgP s3 x.ino x.name (toC x.ino x.name ino)).2 = 0 := hs
 obtain ⟨w1, w2, w3, w4⟩ := ent_set iv3 hc hs'
 obtain ⟨v1, v2, v3, v4⟩ := wr_eff rk3 hc rfl hs'
 have hpr : isX s3.d (recP ino) = true := by rw [c3]; exact isX_self rk2.iv.d hlc hp
 have hz : (drSpot DgP s p).2.2 = 0 := by rw [hsp]
 have hio : (drSpot DgP s p).2.1.ino = x.ino := by rw [hsp]
 rw [hio, ← g4]
 refine ⟨ino, m, l, z, by rw [hf], by omega, hlt.1, hfd, hl1, hb, hz, ?_, ⟨v1, fun a b => ?_, fun u hu => ?_, v3, v2 _ hpr⟩, ?_⟩
 ·have : x.to = dE s1 x.ino (parN p) := g5
  rw [hv1.e] at this
  rw [g4, ← this]; exact g2
 ·show dE (drWrite DgP s3 x.ino x.name (toC x.ino x.name ino)).1 a b = _
  rw [w1, L.e, hv.e]
 ·show fdR (drWrite DgP s3 x.ino x.name (toC x.ino x.name ino)).1 u = _
  rw [w2, L.f u hu, hv.f]
 ·show fdR (drWrite DgP s3 x.ino x.name (toC x.ino x.name ino)).1 ino = _
  rw [w2]; exact c4

/-- All that DirLinks asks. -/
theorem links_all {j : Nat} {s : Sg} (nv : Nv j s) (jv : Jv s) (hl : s.l = rootL) (hj : j ≤ 40) {old p : ByteArray} (he : (drLink DgP s old p).2 = 0) :
  ∃ ino m l z, (drFind DgP s old).2 = (ino, 0) ∧ 0 ≤ ino ∧ ino ≤ 4294967295 ∧ fdR s ino = (⟨1, m, l, z⟩, 0) ∧ l + 1 ≤ 15 ∧ 1 ≤ l ∧ (drFind DgP (drLink DgP s old p).1 p).2 = (ino, 0) ∧ (∀ t, Vs (drLink DgP s old p).1 t → fdR t ino = (⟨1, m, l + 1, z⟩, 0)) ∧
   ∀ t, Vs (drLink DgP s old p).1 t → (drUnlink DgP t p).2 = 0 ∧ fdR (drUnlink DgP t p).1 ino = (⟨1, m, l, z⟩, 0) := by
 have rk : Rk s := ⟨hl, jv, nv.iv⟩
 have m1 := nv.n1
 obtain ⟨ino, m, l, z, h1, h2, h3, hf, hl1, hl2, hsp, h0, md, hf1⟩ := link_md nv rk hj he
 have hnd : ¬ dD s ino := fun q => q.2 (by rw [hf])
 have m0 := nv.n0
 have K : Kept s.n s (drLink DgP s old p).1 := by
  refine ⟨fun a b hn => ?_, fun u hn hu => md.f u (fun e => hnd (e ▸ hu)), nv.lt, by omega, md.rk.l, md.rk.iv.d⟩
  rw [md.e, if_neg (fun q => hn (by rw [q.1, q.2]; exact h0))]
 have hto : ∀ t, Vs (drLink DgP s old p).1 t → (drSpot DgP t p).2 = (⟨(drSpot DgP s p).2.1.ino, parN p, ino⟩, 0) := fun t ht => by
  rw [spot_kept (K.vs (Vs.refl s) ht) hsp, ht.e, md.e, if_pos ⟨rfl, rfl⟩]
 generalize (drLink DgP s old p).1 = s1 at *
 change Sg at s1
 refine ⟨ino, m, l, z, h1, by omega, by omega, hf, hl2, hl1, ?_, fun t ht => by rw [ht.f]; exact hf1, fun t ht => ?_⟩
 ·have e := hto s1 (Vs.refl s1)
  rw [find_spot md.rk.l md.rk.iv.d (by rw [e]), e, if_neg (by show ino ≠ 0; omega)]
 ·have e := hto t ht
  have hz : drTaken DgP t p = drSpot DgP t p := by
   unfold drTaken drTaken1
   rw [if_neg (fun q => ?_)]
   have : (drSpot DgP t p).2.1.to = 0 := q.2
   rw [e] at this
   have h' : ino = 0 := this
   omega
  obtain ⟨t1, ht1⟩ : ∃ t1, (drSpot DgP t p).1 = t1 := ⟨_, rfl⟩
  change Sg at t1
  have hz2 : drTaken DgP t p = (t1, ⟨(drSpot DgP s p).2.1.ino, parN p, ino⟩, 0) := by rw [hz]; exact Prod.ext ht1 e
  have hv1 : Vs t t1 := by rw [← ht1]; exact drSpot_vs t p
  have hv : Vs s1 t1 := ht.trans hv1
  have hk0 : drKind DgP t1 ino 2 193 = (t1, 0) := by
   show (t1, if (fdR t1 ino).2 ≠ 0 then (fdR t1 ino).2 else if (fdR t1 ino).1.k = 2 then 193 else 0) = _
   rw [hv.f, hf1]
   rfl
  obtain ⟨hx, _⟩ := drSpot_ok nv.iv.d hsp
  obtain ⟨g1, _, g3, _, g5, _⟩ := spot_at hsp
  obtain ⟨_, n2⟩ := par_names g1
  have hx8 := hx.n8
  rw [g5] at hx8
  obtain ⟨s4, a1, a2, a3, a4⟩ := away_ok md (dD_ne g3) n2 hx.i0 hx.i1 hx8 hv
  have e1 : drUnlink DgP t p = ((lkR s4 ino (-1)).1, (lkR s4 ino (-1)).2.2) := by
   have w1 : drUnlink DgP t p = drUnlink1 DgP ⟨(drSpot DgP s p).2.1.ino, parN p, ino⟩ (drKind DgP t1 ino 2 193) := (congrArg (drUnlink0 DgP) hz2).trans (un0 (D := DgP) _ _)
   have w2 := (congrArg (drUnlink1 DgP ⟨(drSpot DgP s p).2.1.ino, parN p, ino⟩) hk0).trans (un1 (D := DgP) _ _)
   have w3 : drUnlink2 DgP ino (drAway DgP t1 ⟨(drSpot DgP s p).2.1.ino, parN p, ino⟩) = ((lkR s4 ino (-1)).1, (lkR s4 ino (-1)).2.2) := (congrArg (drUnlink2 DgP ino) a1).trans (un2 (D := DgP) _ _)
   exact w1.trans (w2.trans w3)
  have hf4 : fdR s4 ino = (⟨1, m, l + 1, z⟩, 0) := by rw [a3]; exact hf1
  obtain ⟨q1, q2⟩ := was_of hf4 a4
  have hpl := put_l a2.d a2.c (t := ino) (L := l) (by omega) a4 q1 q2 ⟨hl1, by omega⟩
  have hll : l + 1 + -1 = l := by omega
  obtain ⟨c1, _, _, c4⟩ := lk_can a2 (t := ino) (y := -1) (by omega) (by omega) hf4 ⟨by omega, by omega⟩ (by decide) (by rw [hll]; exact hpl)
  rw [hll] at c4
  rw [e1]
  exact ⟨c1, c4⟩

end Go.Proofs.YtgajjphjkbnaeaaGreat
