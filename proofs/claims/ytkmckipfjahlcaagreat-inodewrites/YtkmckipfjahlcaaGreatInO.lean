/- Mathematics: what Remove leaves; what Make leaves. -/
import Derived.Test.YtkmckipfjahlcaaGreatInT
import Derived.Test.YtkmckipfjahlcaaGreatInN
namespace Go.Proofs.YtkmckipfjahlcaaGreat
open Go.RowKit
set_option linter.unusedVariables false
set_option linter.unusedSimpArgs false
set_option maxRecDepth 100000

/-- A change that hangs on nothing that stood there. -/
theorem put_over {d : Dl} (hd : DlOk d) (hc : CksOk d) {c : Cg} (hk : ckOk c = true) (hm : (d.L.length : Int) < d.most) (hj : c.gone = true ∨ (c.pl.part = 1 ∧ c.fresh = true ∧ c.gone = false)) : putX d c = (c, 0) := by
  unfold putX behX
  rw [hk]
  simp only [if_true]
  cases hi : isX d c.pl with
  | false => simp only [Bool.false_eq_true, if_false]; rw [if_neg (by omega)]
  | true =>
    simp only [if_true]
    have hw := was_pl hd hi
    have hk2 := is_ck hc hi
    unfold joinX jRX
    rw [hk, hk2, hw, plEq_self]
    simp only [if_true]
    rcases hj with h | ⟨h1, h2, h3⟩
    · rw [h]; rfl
    · rw [h3, h1, h2]; rfl
theorem put_at {d : Dl} (hd : DlOk d) {c : Cg} (hc : CgOk c) (h : putX d c = (c, 0)) : DlOk (putS d c) ∧ (putS d c).most = d.most ∧ (putS d c).L.length ≤ d.L.length + 1 ∧ ∀ q, getL (putS d c).L q = if plEq c.pl q = true then some c else getL d.L q := by
  have hl := put_len d c
  refine ⟨putS_ok hd hc, ?_, hl.1, fun q => ?_⟩
  · unfold putS; rw [h]; rfl
  · unfold putS; rw [h]; exact getL_set hd.L hc q
theorem gone_ck {p : Pl} (h : plOk p = true) : ckOk (goneC p) = true := by
  unfold ckOk
  show (if plOk p = true then (if (true : Bool) = true then cgEq (goneC p) (goneC p) else _) else false) = true
  rw [if_pos h, if_pos rfl]
  exact cgEq_self _
theorem goneL_all : ∀ (ps : List Pl) {s : Sg}, DlOk s.d → CksOk s.d → (∀ p ∈ ps, plOk p = true ∧ PlOk p) → (s.d.L.length + ps.length : Int) ≤ s.d.most →
    ∃ d', goneL s ps = ({ s with d := d' }, 0) ∧ DlOk d' ∧ CksOk d' ∧ d'.most = s.d.most ∧ d'.L.length ≤ s.d.L.length + ps.length ∧ (∀ p ∈ ps, getL d'.L p = some (goneC p)) ∧ ∀ q, q ∉ ps → getL d'.L q = getL s.d.L q
  | [], s, hd, hc, hp, hm => ⟨s.d, rfl, hd, hc, rfl, by simp, fun p h => absurd h (by simp), fun q _ => rfl⟩
  | p :: ps, s, hd, hc, hp, hm => by
    obtain ⟨h1, h2⟩ := hp p List.mem_cons_self
    simp only [List.length_cons] at hm
    have hx := put_over hd hc (gone_ck h1) (by omega) (.inl rfl)
    obtain ⟨k1, k2, k3, k4⟩ := put_at hd (gone_ok h2) hx
    obtain ⟨d', e1, e2, e3, e4, e5, e6, e7⟩ := goneL_all ps (s := gone1 s p) k1 (hc.put _) (fun q hq => hp q (List.mem_cons_of_mem _ hq)) (by show ((putS s.d (goneC p)).L.length + ps.length : Int) ≤ (putS s.d (goneC p)).most; rw [k2]; omega)
    have g1 : (gone1 s p).d = putS s.d (goneC p) := rfl
    rw [g1] at e4 e5 e7
    have hpp : ∀ q, q ∉ ps → getL d'.L q = if plEq p q = true then some (goneC p) else getL s.d.L q := fun q hq => (e7 q hq).trans (k4 q)
    refine ⟨d', ?_, e2, e3, e4.trans k2, by simp only [List.length_cons]; omega, fun q hq => ?_, fun q hq => ?_⟩
    · rw [goneL]
      have : goneE s p = 0 := by unfold goneE; rw [hx]
      rw [if_neg (by rw [this]; decide), e1]
      rfl
    · by_cases hm : q ∈ ps
      · exact e6 q hm
      · rcases List.mem_cons.1 hq with rfl | hq
        · rw [hpp q hm, plEq_self, if_pos rfl]
        · exact absurd hq hm
    · rw [List.mem_cons, not_or] at hq
      rw [hpp q hq.2, if_neg (by rw [plEq_no (fun e => hq.1 e.symm)]; decide)]
theorem vg_at {l : List (ByteArray × ByteArray)} {d : Dl} {q : Pl} {c : Cg} (h : getL d.L q = some c) : vgR l d q = chL l c := by
  unfold vgR isX wasX
  rw [h]
  rfl
theorem vg_gone {l : List (ByteArray × ByteArray)} {d : Dl} {q : Pl} (h : getL d.L q = some (goneC q)) : vgR l d q = (it0, false, 0) := by rw [vg_at h]; rfl
theorem vg_fresh {l : List (ByteArray × ByteArray)} {d : Dl} {q : Pl} {k m n z : Int} (h : getL d.L q = some (freshC q k m n z)) : vgR l d q = (freshI (freshC q k m n z), true, 0) := by rw [vg_at h]; rfl
theorem rec_pl {ino : Int} (h0 : 0 < ino) : plOk (recP ino) = true := by
  unfold plOk recP
  simp
  omega
theorem dat_pl {ino : Int} (h0 : 0 < ino) {k : Nat} (hk : k < 16) : plOk (datP ino k) = true := by
  unfold plOk datP
  simp
  omega
theorem placesL_pl {ino : Int} (h0 : 0 < ino) {i : In4} (hs : i.s ≤ 512) : ∀ p ∈ placesL ino i, plOk p = true := by
  intro p hp
  unfold placesL chunksL at hp
  rcases List.mem_cons.1 hp with rfl | hp
  · exact rec_pl h0
  · obtain ⟨k, hk, rfl⟩ := List.mem_map.1 hp
    rw [List.mem_range] at hk
    refine dat_pl h0 ?_
    split at hk <;> omega

/-- What Remove leaves where nothing was written yet. -/
theorem rm_first {s : Sg} (hL : s.d.L = []) (hm : s.d.most = 64) (hd : DlOk s.d) (ino : Int) (h0 : 0 ≤ ino) (h1 : ino ≤ 4294967295) :
    (rmR s ino).1.l = s.l ∧ (rmR s ino).1.n = s.n ∧ DlOk (rmR s ino).1.d ∧ CksOk (rmR s ino).1.d ∧ (rmR s ino).1.d.most = 64 ∧ (rmR s ino).1.d.L.length ≤ 20 ∧
    (((rmR s ino).2 = (fdR s ino).2 ∧ (fdR s ino).2 ≠ 0) ∨ ((rmR s ino).2 = 0 ∧ (fdR s ino).2 = 0 ∧ fdR (rmR s ino).1 ino = (in0, 220) ∧ ∀ k : Nat, (k : Int) * 32 < (fdR s ino).1.s → vgR s.l (rmR s ino).1.d (datP ino k) = (it0, false, 0))) := by
  have hck : CksOk s.d := fun c hc => by rw [hL] at hc; cases hc
  have hbd := fd_bd hd hck ino
  by_cases he : (fdR s ino).2 = 0
  case neg =>
    have e : rmR s ino = (s, (fdR s ino).2) := by unfold rmR rmF; rw [if_pos he]
    rw [e]
    exact ⟨rfl, rfl, hd, hck, hm, by dsimp only; rw [hL]; decide, .inl ⟨rfl, he⟩⟩
  obtain ⟨n0, e0, b0, i0⟩ := fd_empty hL he
  have hpos : 0 < ino := by omega
  have hio := st_ok (l := s.l) (q := recP ino) rfl b0
  have hB : ∀ i : In4, (rmB s ino i).d = s.d ∧ (rmB s ino i).l = s.l ∧ (rmB s ino i).n = s.n := fun i => by unfold rmB; split <;> exact ⟨rfl, rfl, rfl⟩
  obtain ⟨hB1, hB2, hB3⟩ := hB (fdR s ino).1
  have hlen := placesL_len (ino := ino) hbd.s1
  obtain ⟨d', g1, g2, g3, g4, g5, g6, g7⟩ := goneL_all (placesL ino (fdR s ino).1) (s := rmB s ino (fdR s ino).1) (by rw [hB1]; exact hd) (by rw [hB1]; exact hck) (fun p hp => ⟨placesL_pl hpos hbd.s1 p hp, placesL_ok h0 h1 hbd.s1 p hp⟩) (by rw [hB1, hL, hm]; simp only [List.length_nil]; omega)
  rw [hB1] at g4 g5
  rw [hL] at g5
  simp only [List.length_nil, Nat.zero_add] at g5
  have e : rmR s ino = ({ rmB s ino (fdR s ino).1 with d := d', U := addK (rmB s ino (fdR s ino).1).U ino [7] }, 0) := by
    unfold rmR rmF
    rw [if_neg (by simpa using he), g1]
    rfl
  rw [e]
  refine ⟨hB2, hB3, g2, g3, g4.trans hm, by dsimp only; omega, .inr ⟨rfl, he, ?_, fun k hk => ?_⟩⟩
  · unfold fdR fdF
    dsimp only
    rw [if_neg n0, vg_gone (g6 _ (List.mem_cons_self))]
    rfl
  · refine vg_gone (g6 _ ?_)
    rw [i0] at hk ⊢
    unfold placesL chunksL
    refine List.mem_cons_of_mem _ (List.mem_map.2 ⟨k, ?_, rfl⟩)
    rw [List.mem_range]
    rcases (ino_iff.1 hio).2 with ⟨q1, q2⟩ | ⟨q1, q2, q3⟩
    · have q1' : (i4 (stI s.l (recP ino))).k = 1 := q1
      rw [if_pos q1']
      omega
    · have : (i4 (stI s.l (recP ino))).s = 0 := q3
      omega
theorem fresh_ck {p : Pl} (hp : plOk p = true) (h1 : p.part = 1) {k m l z : Int} (h : inoOk k m l z = true) : ckOk (freshC p k m l z) = true := by
  unfold ckOk
  show (if plOk p = true then (if (false : Bool) = true then _ else if p.part = 1 then recOk (freshC p k m l z) else _) else false) = true
  rw [if_pos hp, if_neg (by decide), if_pos h1]
  unfold recOk
  show (if (true : Bool) = true then cgEq (freshC p k m l z) (freshC p k m l z) && inoOk k m l z else _) = true
  rw [if_pos rfl, cgEq_self, h]
  rfl
/-- What Make leaves. -/
theorem make_first {s : Sg} (hd : DlOk s.d) (hc : CksOk s.d) (hm : (s.d.L.length : Int) < s.d.most) (hn : s.n = 100) {mode : Int} (h0 : 0 ≤ mode) (h1 : mode ≤ 511) :
    (makR s 1 mode).2 = (100, 0) ∧ fdR (makR s 1 mode).1 100 = (⟨1, mode, 1, 0⟩, 0) := by
  have hi : inoOk 1 mode 1 0 = true := ino_iff.2 ⟨⟨h0, h1⟩, .inl ⟨rfl, by decide, by decide, by decide, by decide⟩⟩
  have hck : ckOk (makC s 1 mode) = true := fresh_ck (rec_pl (by rw [hn]; decide)) rfl hi
  have hx := put_over hd hc hck hm (.inr ⟨rfl, rfl, rfl⟩)
  have hcg : CgOk (makC s 1 mode) := makC_ok (by rw [hn]; decide) (by rw [hn]; decide) hi
  obtain ⟨k1, k2, k3, k4⟩ := put_at hd hcg hx
  have e : makR s 1 mode = (makS s 1 mode, s.n, 0) := by
    unfold makR
    rw [if_neg (by rw [hi]; decide), if_neg (by rw [hx]; simp)]
  rw [e, hn]
  refine ⟨rfl, ?_⟩
  have hg : getL (makS s 1 mode).d.L (recP 100) = some (freshC (recP 100) 1 mode 1 0) := by
    have := k4 (recP 100)
    unfold makS
    dsimp only
    rw [this]
    unfold makC
    rw [hn]
    show (if plEq (recP 100) (recP 100) = true then _ else _) = _
    rw [plEq_self, if_pos rfl]
  unfold fdR fdF
  rw [if_neg (by decide), vg_fresh hg]
  rfl
theorem make_no {s : Sg} {mode : Int} (h : mode < 0 ∨ 511 < mode) : makR s 1 mode = (s, 0, 1) := by
  unfold makR
  rw [if_pos]
  cases hi : inoOk 1 mode 1 0 with
  | false => rfl
  | true => have := (ino_iff.1 hi).1; omega

end Go.Proofs.YtkmckipfjahlcaaGreat
