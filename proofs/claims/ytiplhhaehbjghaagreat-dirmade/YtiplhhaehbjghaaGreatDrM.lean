/- Mathematics: what is made stands there, and is taken away again. -/
import Derived.Test.YtiplhhaehbjghaaGreatDrY
namespace Go.Proofs.YtiplhhaehbjghaaGreat
open Go.RowKit
set_option linter.unusedVariables false
set_option linter.unusedSimpArgs false
set_option maxRecDepth 100000

/-- What a state has that stands on the root alone. -/
structure Rk (s : Sg) : Prop where
 l : s.l = rootL
 j : Jv s
 iv : Iv s
theorem Rk.vs {s t : Sg} (h : Rk s) (v : Vs s t) : Rk t := ⟨v.l.trans h.l, h.j.back v.l v.d, h.iv.same v.l v.d⟩
/-- An entry that is written. -/
theorem wr_eff {s : Sg} (h : Rk s) {ino : Int} {name : ByteArray} {c : Cg} (hc : CgOk c) (hp : c.pl = entP ino name) (h0 : (drWrite DgP s ino name c).2 = 0) :
  Rk (drWrite DgP s ino name c).1 ∧ (∀ q, isX s.d q = true → isX (drWrite DgP s ino name c).1.d q = true) ∧ isX (drWrite DgP s ino name c).1.d (entP ino name) = true ∧ (drWrite DgP s ino name c).1.d.pus.length = s.d.pus.length + 1 := by
 obtain ⟨h1, e⟩ := dw_ok h0
 have hj := dw_jv h.j hc h0
 rw [e] at hj ⊢
 refine ⟨⟨h.l, hj, (h.iv.ent hc (by rw [hp]; rfl)).same rfl rfl⟩, fun q hq => isX_put h.iv.d hc hq, ?_, pus_put h1⟩
 have := isX_self h.iv.d hc h1
 rw [hp] at this
 exact this

/-- What a call has made. -/
structure Md (s s' : Sg) (io : Int) (x : ByteArray) (t : Int) : Prop where
 rk : Rk s'
 e : ∀ a b, dE s' a b = if a = io ∧ b = x then t else dE s a b
 f : ∀ u, u ≠ t → fdR s' u = fdR s u
 px : isX s'.d (entP io x) = true
 pr : isX s'.d (recP t) = true
theorem Md.kept {s s' : Sg} {io t : Int} {x : ByteArray} (h : Md s s' io x t) (h0 : dE s io x = 0) (hlt : ∀ a b, dE s a b < t) (h1 : 1 < t) : Kept t s s' := by
 refine ⟨fun a b hn => ?_, fun u hn _ => h.f u (by omega), hlt, h1, h.rk.l, h.rk.iv.d⟩
 rw [h.e, if_neg (fun q => hn (by rw [q.1, q.2]; exact h0))]
theorem Md.vs {s s' s'' : Sg} {io t : Int} {x : ByteArray} (h : Md s s' io x t) (v : Vs s' s'') : Md s s'' io x t :=
 ⟨h.rk.vs v, fun a b => by rw [v.e]; exact h.e a b, fun u hu => by rw [v.f]; exact h.f u hu, by rw [v.d]; exact h.px, by rw [v.d]; exact h.pr⟩

theorem fd_made {l : List (ByteArray × ByteArray)} {d : Dl} (hd : DlOk d) (hc : CksOk d) {n k m : Int} (hn : n ≠ 0) (hcg : CgOk (freshC (recP n) k m 1 0)) (h0 : (putX d (freshC (recP n) k m 1 0)).2 = 0) : fdF n (vgR l (putS d (freshC (recP n) k m 1 0)) (recP n)) = (⟨k, m, 1, 0⟩, 0) := by
 rw [vg_p hd hc hcg, if_pos ⟨h0, plEq_iff.2 rfl⟩]
 have e : aft (vgR l d (freshC (recP n) k m 1 0).pl) (freshC (recP n) k m 1 0) = (freshI (freshC (recP n) k m 1 0), true, 0) := rfl
 rw [e]
 unfold fdF
 rw [if_neg hn, if_neg (by simp), if_pos rfl]
 rfl
theorem spot_free {s : Sg} {p : ByteArray} (h : (drFree DgP s p).2.2 = 0) : (drSpot DgP s p).2.2 = 0 ∧ (drSpot DgP s p).2.1.to = 0 ∧ drFree DgP s p = drSpot DgP s p := by
 obtain ⟨h1, e⟩ := drFree_cases (D := DgP) h
 refine ⟨h1, ?_, e⟩
 have h' : (drFree1 DgP (drSpot DgP s p)).2.2 = 0 := h
 unfold drFree1 at h'
 by_cases hc : (drSpot DgP s p).2.1.to = 0
 ·exact hc
 ·rw [if_pos ⟨h1, hc⟩] at h'; exact absurd h' (show ¬ (191 : Int) = 0 by decide)
theorem make_md {i : Nat} {s : Sg} (nv : Nv i s) (rk : Rk s) (hi : i ≤ 60) {p : ByteArray} {k m : Int} (he : (drMake DgP s p k m).2.2 = 0) :
  (drMake DgP s p k m).2.1 = s.n ∧ (drSpot DgP s p).2.2 = 0 ∧ dE s (drSpot DgP s p).2.1.ino (parN p) = 0 ∧ Md s (drMake DgP s p k m).1 (drSpot DgP s p).2.1.ino (parN p) s.n ∧ fdR (drMake DgP s p k m).1 s.n = (⟨k, m, 1, 0⟩, 0) ∧ s.d.pus.length < (drMake DgP s p k m).1.d.pus.length ∧ inoOk k m 1 0 = true := by
 obtain ⟨h1, h2, h3, e⟩ := mk_cases (D := DgP) he
 obtain ⟨g1, g2, g3⟩ := spot_free h1
 obtain ⟨_, _, _, _, g4, g5⟩ := spot_at g1
 have hv := drFree_vs s p
 have hx := drFree_ok rk.iv.d h1
 have hlt := nv.free h1
 have e2 : (drMake DgP s p k m).2.1 = (DgP.mak (drFree DgP s p).1 k m).2.1 := by
  have q : drMake DgP s p k m = drMake1 DgP (drFree DgP s p).2.1 (DgP.mak (drFree DgP s p).1 k m) := if_neg (by simpa using h1)
  have q2 : drMake1 DgP (drFree DgP s p).2.1 (DgP.mak (drFree DgP s p).1 k m) = drMake2 DgP (DgP.mak (drFree DgP s p).1 k m).2.1 (drSet DgP (DgP.mak (drFree DgP s p).1 k m).1 (drFree DgP s p).2.1 (DgP.mak (drFree DgP s p).1 k m).2.1) := if_neg (by simpa using h2)
  have q3 : drMake2 DgP (DgP.mak (drFree DgP s p).1 k m).2.1 (drSet DgP (DgP.mak (drFree DgP s p).1 k m).1 (drFree DgP s p).2.1 (DgP.mak (drFree DgP s p).1 k m).2.1) = ((drSet DgP (DgP.mak (drFree DgP s p).1 k m).1 (drFree DgP s p).2.1 (DgP.mak (drFree DgP s p).1 k m).2.1).1, (DgP.mak (drFree DgP s p).1 k m).2.1, 0) := if_neg (by simpa using h3)
  rw [q, q2, q3]
 have g6 : dE s (drSpot DgP s p).2.1.ino (parN p) = 0 := by rw [← g5]; exact g2
 rw [← g3] at g4 g6 ⊢
 rw [e, e2]
 refine ⟨?_, by rw [h1], g6, ?_⟩
 ·obtain ⟨_, _, a3⟩ := mak_0 h2
  have a4 : DgP.mak (drFree DgP s p).1 k m = (makS (drFree DgP s p).1 k m, Sg.n (drFree DgP s p).1, 0) := a3
  rw [a4]; exact hv.n
 clear e e2 g1 g2 g3 g5
 rw [← g4] at g6 ⊢
 generalize drFree DgP s p = FR at *
 obtain ⟨s1, x, e1⟩ := FR
 change Sg at s1
 dsimp only at *
 have m0 := nv.n0
 have m1 := nv.n1
 have hn : s1.n = s.n := hv.n
 have rk1 := rk.vs hv
 obtain ⟨a1, a2, a3⟩ := mak_0 h2
 obtain ⟨q1, q2, q3, q4⟩ := mak_E rk1.iv (by omega) (by omega) h2
 have a4 : DgP.mak s1 k m = (makS s1 k m, s1.n, 0) := a3
 rw [a4] at h3 ⊢
 have hmc : CgOk (makC s1 k m) := makC_ok (by omega) (by omega) a1
 have rk2 : Rk (makS s1 k m) := ⟨rk1.l, Jv_cl.nx (Jv_cl.put rk1.j hmc), q4⟩
 have hc : CgOk (toC x.ino x.name s1.n) := toC_ok hx.i0 hx.i1 hx.n8 (by omega) (by omega)
 have h3' : (drWrite DgP (makS s1 k m) x.ino x.name (toC x.ino x.name s1.n)).2 = 0 := h3
 obtain ⟨w1, w2, w3, w4⟩ := ent_set q4 hc h3'
 obtain ⟨v1, v2, v3, v4⟩ := wr_eff rk2 hc rfl h3'
 have hF : fdR (makS s1 k m) s.n = (⟨k, m, 1, 0⟩, 0) := by
  show fdF s.n (vgR s1.l (putS s1.d (makC s1 k m)) (recP s.n)) = _
  unfold makC
  unfold makC at a2 hmc
  rw [hn] at a2 hmc ⊢
  exact fd_made rk1.iv.d rk1.iv.c (by omega) hmc a2
 show Md s (drWrite DgP (makS s1 k m) x.ino x.name (toC x.ino x.name s1.n)).1 x.ino x.name s.n ∧ fdR (drWrite DgP (makS s1 k m) x.ino x.name (toC x.ino x.name s1.n)).1 s.n = _ ∧ s.d.pus.length < (drWrite DgP (makS s1 k m) x.ino x.name (toC x.ino x.name s1.n)).1.d.pus.length ∧ _
 refine ⟨⟨v1, fun a b => ?_, fun u hu => ?_, v3, v2 _ ?_⟩, ?_, ?_, a1⟩
 ·rw [w1, q1, hv.e, hn]
 ·rw [w2, q2 u (by omega), hv.f]
 ·have := isX_self rk1.iv.d hmc a2
  rw [show (makC s1 k m).pl = recP s1.n from rfl, hn] at this
  exact this
 ·rw [w2]; exact hF
 ·rw [v4]
  have : (makS s1 k m).d.pus.length = s1.d.pus.length + 1 := pus_put a2
  have e3 : s1.d = s.d := hv.d
  rw [this, e3]; omega

end Go.Proofs.YtiplhhaehbjghaaGreat
