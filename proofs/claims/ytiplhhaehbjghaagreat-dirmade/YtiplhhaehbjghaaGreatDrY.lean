/- Mathematics: where a path leads, ahead of a call and behind it. -/
import Derived.Test.YtiplhhaehbjghaaGreatQ53
namespace Go.Proofs.YtiplhhaehbjghaaGreat
open Go.RowKit
set_option linter.unusedVariables false
set_option linter.unusedSimpArgs false
set_option maxRecDepth 100000

/-! ### Entries of a view that stands on the root alone -/
def dX (s : Sg) (k : Int) (x : ByteArray) : Int := (vgR s.l s.d (entP k x)).2.2
theorem pl_ent {k : Int} {x : ByteArray} (hk : k ≠ 0) (hx : nameOk x = true) : plOk (entP k x) = true := by
 unfold plOk entP
 simp [hk, hx]
theorem dX_0 {s : Sg} (hl : s.l = rootL) (hd : DlOk s.d) {k : Int} {x : ByteArray} (hk : k ≠ 0) (hx : nameOk x = true) : dX s k x = 0 := by
 have hp := pl_ent hk hx
 unfold dX vgR
 rw [hl]
 unfold isX wasX
 cases hg : getL s.d.L (entP k x) with
 | none =>
  show stE rootL (entP k x) = 0
  unfold stE
  rw [hp, if_pos rfl, base_fd hp, if_neg (by simp)]
 | some c =>
  obtain ⟨_, e⟩ := (getL_some hd.L.rise).1 hg
  show (chL rootL c).2.2 = 0
  unfold chL chR
  have h2 : c.pl.part = 2 := by rw [e]; rfl
  split
  ·rfl
  split
  ·rfl
  first | rfl | (rw [if_pos h2])
/-! ### Places of a delta -/
theorem isX_put {d : Dl} (hd : DlOk d) {c : Cg} (hc : CgOk c) {q : Pl} (h : isX d q = true) : isX (putS d c) q = true := by
 by_cases h0 : (putX d c).2 = 0
 ·have hL : (putS d c).L = setL d.L (putX d c).1 := by unfold putS; rw [if_pos h0]
  unfold isX
  rw [hL, getL_set hd.L (putX_ok hd hc) q]
  split
  ·rfl
  ·exact h
 ·rw [putS_err h0]; exact h
theorem isX_self {d : Dl} (hd : DlOk d) {c : Cg} (hc : CgOk c) (h0 : (putX d c).2 = 0) : isX (putS d c) c.pl = true := by
 have hL : (putS d c).L = setL d.L (putX d c).1 := by unfold putS; rw [if_pos h0]
 unfold isX
 rw [hL, getL_set hd.L (putX_ok hd hc) c.pl, putX_pl h0, if_pos (plEq_iff.2 rfl)]
 rfl
theorem putX_gone {d : Dl} (hd : DlOk d) (hc : CksOk d) {p : Pl} (h : isX d p = true) (hp : plOk p = true) : (putX d (goneC p)).2 = 0 := by
 unfold isX at h
 cases hg : getL d.L p with
 | none => rw [hg] at h; cases h
 | some c =>
  obtain ⟨hm, e⟩ := (getL_some hd.L.rise).1 hg
  have h1 : ckOk (goneC p) = true := by
   unfold ckOk
   rw [show (goneC p).pl = p from rfl, hp, if_pos rfl, if_pos (show (goneC p).gone = true from rfl)]
   exact cgEq_iff.2 rfl
  have h2 := hc c hm
  show (behX d (wasX d p) (isX d p) (goneC p)).2 = 0
  unfold behX
  rw [if_pos h1]
  have hw : wasX d p = c := by unfold wasX; rw [hg]; rfl
  have hi : isX d p = true := by unfold isX; rw [hg]; rfl
  rw [hi, if_pos rfl, hw]
  unfold joinX
  rw [if_pos h2, if_pos h1, if_pos (show plEq c.pl (goneC p).pl = true from plEq_iff.2 e), if_pos (show (goneC p).gone = true from rfl)]
theorem pus_put {d : Dl} {c : Cg} (h0 : (putX d c).2 = 0) : (putS d c).pus.length = d.pus.length + 1 := by
 unfold putS
 rw [if_pos h0, List.length_append]
 rfl
/-! ### What stays found -/
structure Kept (N : Int) (s s' : Sg) : Prop where
 E : ∀ a b, dE s a b ≠ 0 → dE s' a b = dE s a b
 F : ∀ u, u < N → dD s u → fdR s' u = fdR s u
 lt : ∀ a b, dE s a b < N
 one : 1 < N
 l : s'.l = rootL
 d : DlOk s'.d
theorem Kept.vs {N : Int} {s s' t t' : Sg} (h : Kept N s s') (a : Vs s t) (b : Vs s' t') : Kept N t t' := by
 refine ⟨fun p q => ?_, fun u hn hu => ?_, fun p q => by rw [a.e]; exact h.lt p q, h.one, b.l.trans h.l, by rw [b.d]; exact h.d⟩
 ·rw [a.e, b.e]; exact h.E p q
 ·rw [a.f, b.f]; exact h.F u hn (dD_of (a.f u) hu)
theorem Kept.refl {s : Sg} (hl : s.l = rootL) (hd : DlOk s.d) : Kept 4294967296 s s := ⟨fun _ _ _ => rfl, fun _ _ _ => rfl, fun a b => by have := (dE_bd hd a b).2; omega, by decide, hl, hd⟩
theorem dD_ne {s : Sg} {t : Int} (h : dD s t) : t ≠ 0 := fun e => by
 subst e
 exact absurd h.1 (by unfold fdR fdF; rw [if_pos rfl]; decide)
theorem look_kept {N : Int} {s s' : Sg} (K : Kept N s s') {t : Int} (ht : t < N) (hd : dD s t) {x : ByteArray} (hx : nameOk x = true) : (dnL s' t x).2 = (dE s' t x, 0) ∧ dnK s' t = 0 := by
 have hk : dnK s' t = 0 := by
  rw [dnK_eq, K.F t ht hd, if_neg (by simpa using hd.1), if_neg hd.2]
 refine ⟨?_, hk⟩
 rw [dnL_eq, if_neg (by simpa using hk)]
 have h0 := dX_0 K.l K.d (dD_ne hd) hx
 unfold dX at h0
 show ((vgR s'.l s'.d (entP t x)).1.lead, (vgR s'.l s'.d (entP t x)).2.2) = _
 rw [h0]
 rfl
theorem step_kept {N : Int} {s s' : Sg} (K : Kept N s s') {t : Int} (ht : t < N) {x : ByteArray} (hx : nameOk x = true) (h : (dnS s t x).2.2 = 0) : (dnS s' t x).2 = (dnS s t x).2 := by
 obtain ⟨q1, q2, q3, q4⟩ := step_good h
 obtain ⟨e, _⟩ := look_kept K ht q4 hx
 rw [K.E t x q3] at e
 have e2 : (dnS s' t x).2 = (dnL s' t x).2 := by
  rw [dnS_eq, e, if_neg (fun k => q3 k.2)]
  exact e
 rw [e2, e]
 exact Prod.ext q2.symm h.symm
theorem step_st {s : Sg} {t : Int} {x : ByteArray} : Vs s (dnS s t x).1 := by
 rw [stepS]
 split
 ·exact Vs.refl s
 ·exact ⟨rfl, rfl, rfl⟩
theorem down_kept : ∀ (ns : List ByteArray) {N : Int} {s s' : Sg}, Kept N s s' → ∀ {t : Int}, t < N → (∀ x ∈ ns, nameOk x = true) → (dnD ns s t).2.2 = 0 → (dnD ns s' t).2 = (dnD ns s t).2
 | [], N, s, s', K, t, ht, hn, h => rfl
 | x :: ns, N, s, s', K, t, ht, hn, h => by
  rw [dnD_eq] at h ⊢
  rw [dnD_eq]
  by_cases hc : (dnS s t x).2.2 ≠ 0
  ·rw [if_pos hc] at h; exact absurd h hc
  rw [if_neg hc] at h ⊢
  have e := step_kept K ht (hn x List.mem_cons_self) (Decidable.not_not.1 hc)
  rw [e, if_neg hc]
  obtain ⟨_, g2, _, _⟩ := step_good (Decidable.not_not.1 hc)
  exact down_kept ns (K.vs step_st step_st) (by rw [g2]; exact K.lt t x) (fun y hy => hn y (List.mem_cons_of_mem _ hy)) h
theorem down_app : ∀ (ns ms : List ByteArray) (s : Sg) (t : Int), (dnD ns s t).2.2 = 0 → dnD (ns ++ ms) s t = dnD ms (dnD ns s t).1 (dnD ns s t).2.1
 | [], ms, s, t, h => rfl
 | x :: ns, ms, s, t, h => by
  rw [List.cons_append, dnD_eq]
  rw [dnD_eq] at h ⊢
  by_cases hc : (dnS s t x).2.2 ≠ 0
  ·rw [if_pos hc] at h; exact absurd h hc
  rw [if_neg hc] at h
  rw [if_neg hc, if_neg hc]
  exact down_app ns ms _ _ h
theorem par_sp {p : ByteArray} (h : parE p = 0) : pathE p = 0 ∧ pathL p = parL p ++ [parN p] := ⟨(par_split h).1, (par_split h).2.symm⟩
theorem par_names {p : ByteArray} (h : parE p = 0) : (∀ x ∈ parL p, nameOk x = true) ∧ nameOk (parN p) = true := by
 obtain ⟨h1, h2⟩ := par_sp h
 have h3 := path_names h1
 rw [h2] at h3
 exact ⟨fun x hx => h3 x (List.mem_append_left _ hx), h3 _ (List.mem_append_right _ List.mem_cons_self)⟩
/-- A place that is found: where it stands. -/
theorem spot_at {s : Sg} {p : ByteArray} (h : (drSpot DgP s p).2.2 = 0) : parE p = 0 ∧ (dnD (parL p) s 1).2.2 = 0 ∧ dD s (drSpot DgP s p).2.1.ino ∧ (drSpot DgP s p).2.1.ino = (dnD (parL p) s 1).2.1 ∧ (drSpot DgP s p).2.1.name = parN p ∧ (drSpot DgP s p).2.1.to = dE s (drSpot DgP s p).2.1.ino (parN p) := by
 obtain ⟨h0, h1, h2, e⟩ := drSpot_cases (D := DgP) h
 obtain ⟨e1, e2⟩ := drLook_E h2
 have hv := drDown_vs (parL p) s 1
 refine ⟨h0, h1, ?_, by rw [e]; rfl, by rw [e], ?_⟩
 ·rw [e]; exact dD_of (hv.f _) e2
 ·rw [e]
  exact e1.trans (hv.e _ _)
theorem spot_kept {N : Int} {s s' : Sg} (K : Kept N s s') {p : ByteArray} (h : (drSpot DgP s p).2.2 = 0) : (drSpot DgP s' p).2 = (⟨(drSpot DgP s p).2.1.ino, parN p, dE s' (drSpot DgP s p).2.1.ino (parN p)⟩, 0) := by
 obtain ⟨h0, h1, h2, h3, h4, h5⟩ := spot_at h
 obtain ⟨n1, n2⟩ := par_names h0
 have hd := down_kept (parL p) K (t := 1) K.one n1 h1
 have hio : (drSpot DgP s p).2.1.ino < N := by
  rcases drSpot_in h with e | ⟨k, x, e⟩
  ·rw [e]; exact K.one
  ·rw [e]; exact K.lt k x
 have hv : Vs s' (dnD (parL p) s' 1).1 := drDown_vs (parL p) s' 1
 have hv0 : Vs s (dnD (parL p) s 1).1 := drDown_vs (parL p) s 1
 have hl := (look_kept (K.vs (Vs.refl s) hv) (t := (drSpot DgP s p).2.1.ino) hio h2 n2).1
 rw [hv.e] at hl
 have e1 : drSpot DgP s' p = drSpot1 DgP (parN p) (dnD (parL p) s' 1) := if_neg (by simpa using h0)
 have e2 : drSpot1 DgP (parN p) (dnD (parL p) s' 1) = drSpot2 DgP (dnD (parL p) s' 1).2.1 (parN p) (dnL (dnD (parL p) s' 1).1 (dnD (parL p) s' 1).2.1 (parN p)) := if_neg (by rw [hd, h1]; simp)
 have e3 : (dnD (parL p) s' 1).2.1 = (drSpot DgP s p).2.1.ino := by rw [hd, h3]
 rw [e1, e2, e3]
 have e4 : drSpot2 DgP (drSpot DgP s p).2.1.ino (parN p) (dnL (dnD (parL p) s' 1).1 (drSpot DgP s p).2.1.ino (parN p)) = ((dnL (dnD (parL p) s' 1).1 (drSpot DgP s p).2.1.ino (parN p)).1, ⟨(drSpot DgP s p).2.1.ino, parN p, (dnL (dnD (parL p) s' 1).1 (drSpot DgP s p).2.1.ino (parN p)).2.1⟩, 0) := if_neg (by rw [hl]; simp)
 rw [e4, hl]
theorem find_spot {s : Sg} (hl : s.l = rootL) (hd : DlOk s.d) {p : ByteArray} (h : (drSpot DgP s p).2.2 = 0) : (drFind DgP s p).2 = if (drSpot DgP s p).2.1.to = 0 then (0, 190) else ((drSpot DgP s p).2.1.to, 0) := by
 obtain ⟨h0, h1, h2, h3, h4, h5⟩ := spot_at h
 obtain ⟨g1, g2⟩ := par_sp h0
 obtain ⟨n1, n2⟩ := par_names h0
 have hv : Vs s (dnD (parL p) s 1).1 := drDown_vs (parL p) s 1
 have e1 : (drFind DgP s p).2 = (dnD (pathL p) s 1).2 := congrArg Prod.snd (if_neg (by simpa using g1))
 rw [e1, g2, down_app (parL p) [parN p] s 1 h1, ← h3]
 have hk := (look_kept ((Kept.refl hl hd).vs (Vs.refl s) hv) (t := (drSpot DgP s p).2.1.ino) (by have := (drSpot_ok hd h).1.i1; omega) h2 n2).1
 rw [hv.e, ← h5] at hk
 generalize (drSpot DgP s p).2.1.ino = io at *
 generalize (drSpot DgP s p).2.1.to = tt at *
 generalize (dnD (parL p) s 1).1 = S at *
 rw [dnD_eq]
 by_cases ht : tt = 0
 ·have e2 : (dnS S io (parN p)).2 = (0, 190) := by
   rw [dnS_eq, hk, if_pos ⟨rfl, ht⟩]
  rw [e2, if_pos (by decide), if_pos ht]
 ·have e2 : (dnS S io (parN p)).2 = (tt, 0) := by
   rw [dnS_eq, hk, if_neg (fun q => ht q.2), hk]
  rw [e2, if_neg (by simp), if_neg ht]
  rfl

end Go.Proofs.YtiplhhaehbjghaaGreat
