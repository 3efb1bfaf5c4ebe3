/- Extent over a store that may fail: what is told is what is told else, or the base's error. -/
import Derived.Test.YtjjhfginmamlkaaGreatXA
import Derived.Test.YtjjhfginmamlkaaGreatSgL
namespace Go.Proofs.YtjjhfginmamlkaaGreat.L
open Go.RowKit Go.Maps
set_option linter.unusedVariables false
set_option linter.unusedSimpArgs false
set_option maxRecDepth 100000

theorem st_sim (l : List (ByteArray × ByteArray)) (f : Int) (q : Pl) : stV l f q = stV l (-1) q ∨ (stV l f q = (it0, false, 70) ∧ f = 0 ∧ stF f q = 0) := by
  by_cases h : plOk q = true ∧ f = 0
  · refine .inr ⟨by unfold stV; rw [if_pos h], h.2, ?_⟩
    unfold stF decL
    rw [h.1, h.2]
    rfl
  · refine .inl ?_
    unfold stV
    rw [if_neg h, if_neg (fun e => absurd e.2 (by decide))]
theorem vg_sim (l : List (ByteArray × ByteArray)) (f : Int) (d : Dl) (q : Pl) : vgV l f d q = vgV l (-1) d q ∨ ((vgV l f d q).2.2 = 70 ∧ f = 0 ∧ vgF f d q = 0) := by
  unfold vgV vgF
  split
  · unfold chV chF
    rcases st_sim l f (wasX d q).pl with h | ⟨h1, h2, h3⟩
    · rw [h]; exact .inl rfl
    · rw [h1, h3]
      unfold chR
      by_cases c1 : (wasX d q).gone = true
      · rw [if_pos c1, if_pos c1]; exact .inl rfl
      rw [if_neg c1, if_neg c1]
      by_cases c2 : (wasX d q).fresh = true
      · rw [if_pos c2, if_pos c2]; exact .inl rfl
      rw [if_neg c2, if_neg c2]
      by_cases c3 : (wasX d q).pl.part = 2
      · rw [if_pos c3, if_pos c3]; exact .inl rfl
      rw [if_neg c3, if_neg c3]
      by_cases c4 : (wasX d q).pt.fresh = true
      · rw [if_pos c4, if_pos c4]; exact .inl rfl
      rw [if_neg c4, if_pos (by decide)]
      refine .inr ⟨rfl, h2, ?_⟩
      rw [if_neg (by simp [c1, c2, c3, c4])]
  · rcases st_sim l f q with h | ⟨h1, h2, h3⟩
    · exact .inl h
    · exact .inr ⟨by rw [h1], h2, h3⟩
theorem vgF_neg (d : Dl) (q : Pl) : vgF (-1) d q = -1 := by
  unfold vgF chF stF
  repeat' split
  all_goals rfl

/-- Alike but for how often the base may be asked. -/
structure Lk (s t : Sg) : Prop where
  l : s.l = t.l
  d : s.d = t.d
  n : s.n = t.n
  f : t.lf = -1
theorem Lk.fdS {s t : Sg} (h : Lk s t) (ino : Int) : Lk (fdS s ino) (fdS t ino) := by
  obtain ⟨a1, _, _, a4, a5⟩ := fdS_same s ino
  obtain ⟨b1, _, _, b4, b5⟩ := fdS_same t ino
  refine ⟨by rw [a4, b4, h.l], by rw [a1, b1, h.d], by rw [a5, b5, h.n], ?_⟩
  unfold L.fdS
  split
  · exact h.f
  · show vgF t.lf t.d (recP ino) = -1
    rw [h.f, vgF_neg]
theorem Lk.fd {s t : Sg} (h : Lk s t) (ino : Int) : fdR s ino = fdR t ino ∨ ((fdR s ino).2 = 70 ∧ (L.fdS s ino).lf = 0) := by
  unfold fdR
  have hv := vg_sim s.l s.lf s.d (recP ino)
  rw [← h.l, ← h.d, h.f]
  rcases hv with e | ⟨e1, e2, e3⟩
  · rw [e]; exact .inl rfl
  · by_cases hi : ino = 0
    · refine .inl ?_
      unfold fdF
      rw [if_pos hi, if_pos hi]
    · refine .inr ⟨?_, ?_⟩
      · unfold fdF
        rw [if_neg hi, if_pos (by rw [e1]; decide)]
        exact e1
      · unfold L.fdS
        rw [if_neg hi]
        exact e3
theorem Lk.get {s t : Sg} (h : Lk s t) (p : Pl) : (vgV s.l s.lf s.d p = vgV t.l t.lf t.d p ∧ Lk { s with lf := vgF s.lf s.d p } { t with lf := vgF t.lf t.d p }) ∨ ((vgV s.l s.lf s.d p).2.2 = 70 ∧ vgF s.lf s.d p = 0) := by
  rcases vg_sim s.l s.lf s.d p with e | ⟨e1, _, e3⟩
  · exact .inl ⟨by rw [e, h.l, h.d, h.f], h.l, h.d, h.n, by rw [h.f, vgF_neg]⟩
  · exact .inr ⟨e1, e3⟩

/-- The same, or the base's error. -/
def Sm2 (x y : Sg × Int) : Prop := (x.2 = y.2 ∧ Lk x.1 y.1) ∨ (x.2 = 70 ∧ x.1.lf = 0)
def Sm3 {α : Type} (x y : Sg × α × Int) : Prop := (x.2 = y.2 ∧ Lk x.1 y.1) ∨ (x.2.2 = 70 ∧ x.1.lf = 0)
theorem Lk.sz {s t : Sg} (h : Lk s t) (ino : Int) : Sm3 (sizeR s ino) (sizeR t ino) := by
  have hf := h.fdS ino
  unfold sizeR
  rcases h.fd ino with e | ⟨e1, e2⟩
  · rw [e]
    split
    · exact .inl ⟨rfl, hf⟩
    · exact .inl ⟨rfl, hf.l, hf.d, hf.n, hf.f⟩
  · rw [if_pos (by rw [e1]; decide)]
    exact .inr ⟨e1, e2⟩
theorem Lk.set {s t : Sg} (h : Lk s t) (ino : Int) (fs : List (Int × Int)) : Sm2 (setR s ino fs) (setR t ino fs) := by
  have hf := h.fdS ino
  unfold setR setF
  rcases h.fd ino with e | ⟨e1, e2⟩
  · rw [e, hf.d]
    repeat' split
    all_goals first | exact .inl ⟨rfl, hf⟩ | exact .inl ⟨rfl, hf.l, rfl, hf.n, hf.f⟩
  · rw [if_pos (by rw [e1]; decide)]
    exact .inr ⟨e1, e2⟩

/-! ### The functions -/

theorem sz_sim {s t : Sg} (h : Lk s t) (ino : Int) : Sm3 (exSz SgL s ino) (exSz SgL t ino) := by
  have hf := h.fdS ino
  show Sm3 (if (fdR s ino).2 ≠ 0 then ((fdS s ino, 0, (fdR s ino).2) : Sg × Int × Int) else if (fdR s ino).1.k = 2 then (fdS s ino, 0, 193) else sizeR (fdS s ino) ino) (if (fdR t ino).2 ≠ 0 then ((fdS t ino, 0, (fdR t ino).2) : Sg × Int × Int) else if (fdR t ino).1.k = 2 then (fdS t ino, 0, 193) else sizeR (fdS t ino) ino)
  rcases h.fd ino with e | ⟨e1, e2⟩
  · rw [e]
    split
    · exact .inl ⟨rfl, hf⟩
    split
    · exact .inl ⟨rfl, hf⟩
    · exact hf.sz ino
  · rw [if_pos (by rw [e1]; decide)]
    exact .inr ⟨e1, e2⟩
def getX (ino : Int) (s : Sg) (ps : List Pc3) : Sg × List Int × Int := exGet SgL ino s ps
theorem getX_cons (ino : Int) (s : Sg) (p : Pc3) (ps : List Pc3) : getX ino s (p :: ps) = if (vgV s.l s.lf s.d (datP ino p.c)).2.2 ≠ 0 then ({ s with lf := vgF s.lf s.d (datP ino p.c) }, [], (vgV s.l s.lf s.d (datP ino p.c)).2.2) else
    ((getX ino { s with lf := vgF s.lf s.d (datP ino p.c) } ps).1, ((vgV s.l s.lf s.d (datP ino p.c)).1.bytes.drop p.at_).take p.n ++ (getX ino { s with lf := vgF s.lf s.d (datP ino p.c) } ps).2.1, (getX ino { s with lf := vgF s.lf s.d (datP ino p.c) } ps).2.2) := rfl
def putsX (s : Sg) (cs : List Cg) : Sg × Int := exPut SgL s cs
theorem putsX_cons (s : Sg) (c : Cg) (cs : List Cg) : putsX s (c :: cs) = if (putX s.d c).2 ≠ 0 then (({ s with d := putS s.d c }, (putX s.d c).2) : Sg × Int) else putsX { s with d := putS s.d c } cs := rfl
theorem get_sim {ino : Int} : ∀ (ps : List Pc3) {s t : Sg}, Lk s t → Sm3 (getX ino s ps) (getX ino t ps)
  | [], s, t, h => .inl ⟨rfl, h⟩
  | p :: ps, s, t, h => by
    have hg := h.get (datP ino p.c)
    rw [getX_cons, getX_cons]
    rcases hg with ⟨e, hk⟩ | ⟨e1, e2⟩
    · have hs := get_sim ps hk (ino := ino)
      rw [e]
      generalize vgV t.l t.lf t.d (datP ino p.c) = v at *
      generalize getX ino { s with lf := vgF s.lf s.d (datP ino p.c) } ps = x at *
      generalize getX ino { t with lf := vgF t.lf t.d (datP ino p.c) } ps = y at *
      by_cases h0 : v.2.2 ≠ 0
      · rw [if_pos h0, if_pos h0]
        exact .inl ⟨rfl, hk⟩
      · rw [if_neg h0, if_neg h0]
        rcases hs with ⟨a1, a2⟩ | ⟨a1, a2⟩
        · exact .inl ⟨by dsimp only; rw [a1], a2⟩
        · exact .inr ⟨a1, a2⟩
    · rw [if_pos (by rw [e1]; decide)]
      exact .inr ⟨e1, e2⟩
theorem put_sim : ∀ (cs : List Cg) {s t : Sg}, Lk s t → Sm2 (putsX s cs) (putsX t cs)
  | [], s, t, h => .inl ⟨rfl, h⟩
  | c :: cs, s, t, h => by
    have hk : Lk { s with d := putS s.d c } { t with d := putS t.d c } := ⟨h.l, by show putS s.d c = putS t.d c; rw [h.d], h.n, h.f⟩
    have e : (putX s.d c).2 = (putX t.d c).2 := by rw [h.d]
    rw [putsX_cons, putsX_cons, e]
    split
    · exact .inl ⟨rfl, hk⟩
    · exact put_sim cs hk
theorem Lk.rd {s t : Sg} (h : Lk s t) (x : Tc) : Lk (SgL.rd s x) (SgL.rd t x) := ⟨h.l, h.d, h.n, h.f⟩
theorem Lk.wr {s t : Sg} (h : Lk s t) (x : Tc) : Lk (SgL.wr s x) (SgL.wr t x) := ⟨h.l, h.d, h.n, h.f⟩

def rdX (s : Sg) (ino off n : Int) : Sg × ByteArray × Int := exRd SgL s ino off n
def wrX (s : Sg) (ino off : Int) (data : ByteArray) : Sg × Int := exWr SgL s ino off data
def trX (s : Sg) (ino size : Int) : Sg × Int := exTr SgL s ino size
/-- What Read tells: the same, or the base's error and no bytes. -/
theorem rd_sim {s t : Sg} (h : Lk s t) (ino off n : Int) : (rdX s ino off n).2 = (rdX t ino off n).2 ∨ ((rdX s ino off n).2 = (⟨#[]⟩, 70) ∧ (rdX s ino off n).1.lf = 0) := by
  unfold rdX exRd
  split
  · exact .inl rfl
  have hz := sz_sim h ino
  generalize exSz SgL s ino = x at *
  generalize exSz SgL t ino = y at *
  obtain ⟨x1, x2, x3⟩ := x
  obtain ⟨y1, y2, y3⟩ := y
  unfold exRd1
  rcases hz with ⟨e1, e2⟩ | ⟨e1, e2⟩
  · simp only [Prod.mk.injEq] at e1
    obtain ⟨rfl, rfl⟩ := e1
    dsimp only at e2 ⊢
    split
    · exact .inl rfl
    unfold exRd2
    dsimp only
    split
    · exact .inl rfl
    have hg : Sm3 (exGet SgL ino (SgL.rd x1 (tcB ino off (off + min n (x2 - off)))) (pcsL off.toNat (min n (x2 - off)).toNat)) (exGet SgL ino (SgL.rd y1 (tcB ino off (off + min n (x2 - off)))) (pcsL off.toNat (min n (x2 - off)).toNat)) := get_sim (ino := ino) (pcsL off.toNat (min n (x2 - off)).toNat) (e2.rd (tcB ino off (off + min n (x2 - off))))
    generalize exGet SgL ino (SgL.rd x1 (tcB ino off (off + min n (x2 - off)))) (pcsL off.toNat (min n (x2 - off)).toNat) = x at *
    generalize exGet SgL ino (SgL.rd y1 (tcB ino off (off + min n (x2 - off)))) (pcsL off.toNat (min n (x2 - off)).toNat) = y at *
    obtain ⟨g1, g2, g3⟩ := x
    obtain ⟨g1', g2', g3'⟩ := y
    unfold exOut
    rcases hg with ⟨a1, a2⟩ | ⟨a1, a2⟩
    · simp only [Prod.mk.injEq] at a1
      obtain ⟨rfl, rfl⟩ := a1
      exact .inl rfl
    · dsimp only at a1 a2 ⊢
      subst a1
      exact .inr ⟨by rw [if_pos (by decide)], a2⟩
  · dsimp only at e1 e2 ⊢
    rw [if_pos (by rw [e1]; decide)]
    exact .inr ⟨by rw [e1], e2⟩
theorem wr3_sim {s t : Sg} (h : Lk s t) (ino e z : Int) : Sm2 (exWr3 SgL ino e z s) (exWr3 SgL ino e z t) := by
  unfold exWr3
  split
  · exact .inl ⟨rfl, h⟩
  · exact h.set ino _
theorem wr_sim {s t : Sg} (h : Lk s t) (ino off : Int) (data : ByteArray) : (wrX s ino off data).2 = (wrX t ino off data).2 ∨ ((wrX s ino off data).2 = 70 ∧ (wrX s ino off data).1.lf = 0) := by
  unfold wrX exWr
  split
  · exact .inl rfl
  have hz := sz_sim h ino
  generalize exSz SgL s ino = x at *
  generalize exSz SgL t ino = y at *
  obtain ⟨x1, x2, x3⟩ := x
  obtain ⟨y1, y2, y3⟩ := y
  unfold exWr1
  rcases hz with ⟨e1, e2⟩ | ⟨e1, e2⟩
  · simp only [Prod.mk.injEq] at e1
    obtain ⟨rfl, rfl⟩ := e1
    dsimp only at e2 ⊢
    split
    · exact .inl rfl
    split
    · exact .inl rfl
    split
    · exact .inl rfl
    have hg : Sm2 (exPut SgL x1 ((pcsL off.toNat data.size).map (layC ino (strB data)))) (exPut SgL y1 ((pcsL off.toNat data.size).map (layC ino (strB data)))) := put_sim ((pcsL off.toNat data.size).map (layC ino (strB data))) e2
    generalize exPut SgL x1 ((pcsL off.toNat data.size).map (layC ino (strB data))) = x at *
    generalize exPut SgL y1 ((pcsL off.toNat data.size).map (layC ino (strB data))) = y at *
    obtain ⟨p1, p2⟩ := x
    obtain ⟨q1, q2⟩ := y
    unfold exWr2
    rcases hg with ⟨a1, a2⟩ | ⟨a1, a2⟩
    · dsimp only at a1 a2 ⊢
      subst a1
      split
      · exact .inl rfl
      · rcases wr3_sim (a2.wr (tcB ino off (off + data.size))) ino (off + data.size) x2 with ⟨b1, _⟩ | b
        · exact .inl b1
        · exact .inr b
    · dsimp only at a1 a2 ⊢
      rw [if_pos (by rw [a1]; decide)]
      exact .inr ⟨a1, a2⟩
  · dsimp only at e1 e2 ⊢
    rw [if_pos (by rw [e1]; decide)]
    exact .inr ⟨e1, e2⟩
theorem tr_sim {s t : Sg} (h : Lk s t) (ino size : Int) : (trX s ino size).2 = (trX t ino size).2 ∨ ((trX s ino size).2 = 70 ∧ (trX s ino size).1.lf = 0) := by
  unfold trX exTr
  have hz := sz_sim h ino
  generalize exSz SgL s ino = x at *
  generalize exSz SgL t ino = y at *
  obtain ⟨x1, x2, x3⟩ := x
  obtain ⟨y1, y2, y3⟩ := y
  unfold exTr1
  rcases hz with ⟨e1, e2⟩ | ⟨e1, e2⟩
  · simp only [Prod.mk.injEq] at e1
    obtain ⟨rfl, rfl⟩ := e1
    dsimp only at e2 ⊢
    split
    · exact .inl rfl
    split
    · exact .inl rfl
    split
    · exact .inl rfl
    split
    · have hg : Sm2 (exPut SgL x1 (wipeC ino size.toNat x2.toNat)) (exPut SgL y1 (wipeC ino size.toNat x2.toNat)) := put_sim (wipeC ino size.toNat x2.toNat) e2
      generalize exPut SgL x1 (wipeC ino size.toNat x2.toNat) = x at *
      generalize exPut SgL y1 (wipeC ino size.toNat x2.toNat) = y at *
      obtain ⟨p1, p2⟩ := x
      obtain ⟨q1, q2⟩ := y
      unfold exTr2
      rcases hg with ⟨a1, a2⟩ | ⟨a1, a2⟩
      · dsimp only at a1 a2 ⊢
        subst a1
        split
        · exact .inl rfl
        · rcases (a2.wr (tcB ino size x2)).set ino [(4, size)] with ⟨b1, _⟩ | b
          · exact .inl b1
          · exact .inr b
      · dsimp only at a1 a2 ⊢
        rw [if_pos (by rw [a1]; decide)]
        exact .inr ⟨a1, a2⟩
    · rcases e2.set ino [(4, size)] with ⟨b1, _⟩ | b
      · exact .inl b1
      · exact .inr b
  · dsimp only at e1 e2 ⊢
    rw [if_pos (by rw [e1]; decide)]
    exact .inr ⟨e1, e2⟩

end Go.Proofs.YtjjhfginmamlkaaGreat.L
