/- Mathematics: what Set leaves where nothing was written yet. -/
import Derived.Test.YtkmckipfjahlcaaGreatInM
namespace Go.Proofs.YtkmckipfjahlcaaGreat
open Go.RowKit
set_option linter.unusedVariables false
set_option linter.unusedSimpArgs false
set_option maxRecDepth 100000

/-- One inode with the fields of a sum out of another one. -/
def mixI (i j : In4) (sum : Int) : In4 := ⟨i.k, if bF sum 1 then j.m else i.m, if bF sum 2 then j.l else i.l, if bF sum 4 then j.s else i.s⟩
def Sums (x : Int) : Prop := x = 0 ∨ x = 1 ∨ x = 2 ∨ x = 3 ∨ x = 4 ∨ x = 5 ∨ x = 6 ∨ x = 7
theorem mix0 (i j : In4) : mixI i j 0 = i := by unfold mixI; rw [if_neg (by decide), if_neg (by decide), if_neg (by decide)]
/-- What one field does to both. -/
theorem wf1_mix {i n j : In4} {sum : Int} {f : Int × Int} {n' : In4} {s' : Int} (hs : Sums sum) (hn : n = mixI i j sum) (h : wf1 (some (n, sum)) f = some (n', s')) : ∃ j', wf1 (some (j, sum)) f = some (j', s') ∧ n' = mixI i j' s' ∧ Sums s' ∧ j'.k = j.k := by
  unfold wf1 at h ⊢
  dsimp only at h ⊢
  cases ha : (bits .and .i64 sum f.1 != 0) with
  | true => rw [ha] at h; cases h
  | false =>
    rw [ha] at h
    simp only [Bool.false_eq_true, if_false] at h ⊢
    have hb : ∀ m, m = f.1 → bF sum m = false := fun m e => by unfold bF; rw [e]; exact ha
    by_cases h1 : f.1 = 1
    · rw [if_pos h1] at h ⊢
      cases h
      refine ⟨_, rfl, ?_, ?_, rfl⟩
      · have b := hb 1 h1.symm
        subst hn
        rcases hs with rfl | rfl | rfl | rfl | rfl | rfl | rfl | rfl
        all_goals first | (exact absurd b (by decide)) | (unfold mixI; simp [show bF 0 1 = false by decide, show bF 0 2 = false by decide, show bF 0 4 = false by decide, show bF 2 1 = false by decide, show bF 2 2 = true by decide, show bF 2 4 = false by decide, show bF 4 1 = false by decide, show bF 4 2 = false by decide, show bF 4 4 = true by decide, show bF 6 1 = false by decide, show bF 6 2 = true by decide, show bF 6 4 = true by decide, show bits BinOp.or .i64 0 1 = 1 by decide, show bits BinOp.or .i64 2 1 = 3 by decide, show bits BinOp.or .i64 4 1 = 5 by decide, show bits BinOp.or .i64 6 1 = 7 by decide, show bF 1 1 = true by decide, show bF 1 2 = false by decide, show bF 1 4 = false by decide, show bF 3 1 = true by decide, show bF 3 2 = true by decide, show bF 3 4 = false by decide, show bF 5 1 = true by decide, show bF 5 2 = false by decide, show bF 5 4 = true by decide, show bF 7 1 = true by decide, show bF 7 2 = true by decide, show bF 7 4 = true by decide]; done)
      · rcases hs with rfl | rfl | rfl | rfl | rfl | rfl | rfl | rfl <;> (unfold Sums; decide)
    rw [if_neg h1] at h ⊢
    by_cases h2 : f.1 = 2
    · rw [if_pos h2] at h ⊢
      cases h
      refine ⟨_, rfl, ?_, ?_, rfl⟩
      · have b := hb 2 h2.symm
        subst hn
        rcases hs with rfl | rfl | rfl | rfl | rfl | rfl | rfl | rfl
        all_goals first | (exact absurd b (by decide)) | (unfold mixI; simp [show bF 0 1 = false by decide, show bF 0 2 = false by decide, show bF 0 4 = false by decide, show bF 1 1 = true by decide, show bF 1 2 = false by decide, show bF 1 4 = false by decide, show bF 4 1 = false by decide, show bF 4 2 = false by decide, show bF 4 4 = true by decide, show bF 5 1 = true by decide, show bF 5 2 = false by decide, show bF 5 4 = true by decide, show bits BinOp.or .i64 0 2 = 2 by decide, show bits BinOp.or .i64 1 2 = 3 by decide, show bits BinOp.or .i64 4 2 = 6 by decide, show bits BinOp.or .i64 5 2 = 7 by decide, show bF 2 1 = false by decide, show bF 2 2 = true by decide, show bF 2 4 = false by decide, show bF 3 1 = true by decide, show bF 3 2 = true by decide, show bF 3 4 = false by decide, show bF 6 1 = false by decide, show bF 6 2 = true by decide, show bF 6 4 = true by decide, show bF 7 1 = true by decide, show bF 7 2 = true by decide, show bF 7 4 = true by decide]; done)
      · rcases hs with rfl | rfl | rfl | rfl | rfl | rfl | rfl | rfl <;> (unfold Sums; decide)
    rw [if_neg h2] at h ⊢
    by_cases h4 : f.1 = 4
    · rw [if_pos h4] at h ⊢
      cases h
      refine ⟨_, rfl, ?_, ?_, rfl⟩
      · have b := hb 4 h4.symm
        subst hn
        rcases hs with rfl | rfl | rfl | rfl | rfl | rfl | rfl | rfl
        all_goals first | (exact absurd b (by decide)) | (unfold mixI; simp [show bF 0 1 = false by decide, show bF 0 2 = false by decide, show bF 0 4 = false by decide, show bF 1 1 = true by decide, show bF 1 2 = false by decide, show bF 1 4 = false by decide, show bF 2 1 = false by decide, show bF 2 2 = true by decide, show bF 2 4 = false by decide, show bF 3 1 = true by decide, show bF 3 2 = true by decide, show bF 3 4 = false by decide, show bits BinOp.or .i64 0 4 = 4 by decide, show bits BinOp.or .i64 1 4 = 5 by decide, show bits BinOp.or .i64 2 4 = 6 by decide, show bits BinOp.or .i64 3 4 = 7 by decide, show bF 4 1 = false by decide, show bF 4 2 = false by decide, show bF 4 4 = true by decide, show bF 5 1 = true by decide, show bF 5 2 = false by decide, show bF 5 4 = true by decide, show bF 6 1 = false by decide, show bF 6 2 = true by decide, show bF 6 4 = true by decide, show bF 7 1 = true by decide, show bF 7 2 = true by decide, show bF 7 4 = true by decide]; done)
      · rcases hs with rfl | rfl | rfl | rfl | rfl | rfl | rfl | rfl <;> (unfold Sums; decide)
    rw [if_neg h4] at h
    cases h
theorem wf_mix {i : In4} : ∀ (fs : List (Int × Int)) {n j : In4} {sum : Int}, Sums sum → n = mixI i j sum → ∀ {n' s'}, fs.foldl wf1 (some (n, sum)) = some (n', s') → ∃ j', fs.foldl wf1 (some (j, sum)) = some (j', s') ∧ n' = mixI i j' s' ∧ Sums s' ∧ j'.k = j.k
  | [], n, j, sum, hs, hn, n', s', h => by cases h; exact ⟨j, rfl, hn, hs, rfl⟩
  | f :: fs, n, j, sum, hs, hn, n', s', h => by
    rw [List.foldl_cons] at h
    cases h1 : wf1 (some (n, sum)) f with
    | none => rw [h1, wf_none] at h; cases h
    | some p =>
      obtain ⟨n1, s1⟩ := p
      obtain ⟨j1, e1, e2, e3, e4⟩ := wf1_mix hs hn h1
      rw [h1] at h
      obtain ⟨j', a1, a2, a3, a4⟩ := wf_mix fs e3 e2 h
      exact ⟨j', by rw [List.foldl_cons, e1]; exact a1, a2, a3, a4.trans e4⟩
/-- What withFields makes of any inode, and of none. -/
theorem wfR_mix {i : In4} {fs : List (Int × Int)} (h : (wfR i fs).2.2 = true) : ∃ j sum, Sums sum ∧ wfR in0 fs = (j, sum, true) ∧ wfR i fs = (mixI i j sum, sum, true) ∧ j.k = 0 := by
  unfold wfR at h ⊢
  cases h1 : wfL i fs with
  | none => rw [h1] at h; cases h
  | some p =>
    obtain ⟨n, sum⟩ := p
    obtain ⟨j, e1, e2, e3, e4⟩ := wf_mix (i := i) fs (j := in0) (.inl rfl) (mix0 i in0).symm (n := i) h1
    unfold wfL
    rw [e1]
    exact ⟨j, sum, e3, rfl, by rw [e2], e4⟩

/-- Each field that was set is told. -/
def Told (n : In4) (f : Int × Int) : Prop := (f.1 = 1 ∧ n.m = f.2) ∨ (f.1 = 2 ∧ n.l = f.2) ∨ (f.1 = 4 ∧ n.s = f.2)
theorem wf1_told {n n' : In4} {sum s' : Int} {f : Int × Int} (hs : Sums sum) (h : wf1 (some (n, sum)) f = some (n', s')) : Told n' f ∧ Sums s' ∧ bF s' f.1 = true ∧ ∀ g, Told n g → bF sum g.1 = true → Told n' g ∧ bF s' g.1 = true := by
  unfold wf1 at h
  dsimp only at h
  cases ha : (bits .and .i64 sum f.1 != 0) with
  | true => rw [ha] at h; cases h
  | false =>
    rw [ha] at h
    simp only [Bool.false_eq_true, if_false] at h
    have hb : ∀ m, m = f.1 → bF sum m = false := fun m e => by unfold bF; rw [e]; exact ha
    by_cases h1 : f.1 = 1
    · rw [if_pos h1] at h
      cases h
      have b := hb 1 h1.symm
      refine ⟨.inl ⟨h1, rfl⟩, ?_, ?_, ?_⟩
      · rcases hs with rfl | rfl | rfl | rfl | rfl | rfl | rfl | rfl <;> (unfold Sums; decide)
      · rw [h1]; rcases hs with rfl | rfl | rfl | rfl | rfl | rfl | rfl | rfl <;> decide
      · rintro ⟨g1, g2⟩ hg hg2
        rcases hg with ⟨e, e2⟩ | ⟨e, e2⟩ | ⟨e, e2⟩
        · dsimp only at e hg2; rw [e, b] at hg2; cases hg2
        · refine ⟨.inr (.inl ⟨e, e2⟩), ?_⟩
          dsimp only at e hg2 ⊢; subst e
          rcases hs with rfl | rfl | rfl | rfl | rfl | rfl | rfl | rfl <;> first | decide | (exact absurd hg2 (by decide))
        · refine ⟨.inr (.inr ⟨e, e2⟩), ?_⟩
          dsimp only at e hg2 ⊢; subst e
          rcases hs with rfl | rfl | rfl | rfl | rfl | rfl | rfl | rfl <;> first | decide | (exact absurd hg2 (by decide))
    rw [if_neg h1] at h
    by_cases h2 : f.1 = 2
    · rw [if_pos h2] at h
      cases h
      have b := hb 2 h2.symm
      refine ⟨.inr (.inl ⟨h2, rfl⟩), ?_, ?_, ?_⟩
      · rcases hs with rfl | rfl | rfl | rfl | rfl | rfl | rfl | rfl <;> (unfold Sums; decide)
      · rw [h2]; rcases hs with rfl | rfl | rfl | rfl | rfl | rfl | rfl | rfl <;> decide
      · rintro ⟨g1, g2⟩ hg hg2
        rcases hg with ⟨e, e2⟩ | ⟨e, e2⟩ | ⟨e, e2⟩
        · refine ⟨.inl ⟨e, e2⟩, ?_⟩
          dsimp only at e hg2 ⊢; subst e
          rcases hs with rfl | rfl | rfl | rfl | rfl | rfl | rfl | rfl <;> first | decide | (exact absurd hg2 (by decide))
        · dsimp only at e hg2; rw [e, b] at hg2; cases hg2
        · refine ⟨.inr (.inr ⟨e, e2⟩), ?_⟩
          dsimp only at e hg2 ⊢; subst e
          rcases hs with rfl | rfl | rfl | rfl | rfl | rfl | rfl | rfl <;> first | decide | (exact absurd hg2 (by decide))
    rw [if_neg h2] at h
    by_cases h4 : f.1 = 4
    · rw [if_pos h4] at h
      cases h
      have b := hb 4 h4.symm
      refine ⟨.inr (.inr ⟨h4, rfl⟩), ?_, ?_, ?_⟩
      · rcases hs with rfl | rfl | rfl | rfl | rfl | rfl | rfl | rfl <;> (unfold Sums; decide)
      · rw [h4]; rcases hs with rfl | rfl | rfl | rfl | rfl | rfl | rfl | rfl <;> decide
      · rintro ⟨g1, g2⟩ hg hg2
        rcases hg with ⟨e, e2⟩ | ⟨e, e2⟩ | ⟨e, e2⟩
        · refine ⟨.inl ⟨e, e2⟩, ?_⟩
          dsimp only at e hg2 ⊢; subst e
          rcases hs with rfl | rfl | rfl | rfl | rfl | rfl | rfl | rfl <;> first | decide | (exact absurd hg2 (by decide))
        · refine ⟨.inr (.inl ⟨e, e2⟩), ?_⟩
          dsimp only at e hg2 ⊢; subst e
          rcases hs with rfl | rfl | rfl | rfl | rfl | rfl | rfl | rfl <;> first | decide | (exact absurd hg2 (by decide))
        · dsimp only at e hg2; rw [e, b] at hg2; cases hg2
    rw [if_neg h4] at h
    cases h
theorem wf_told : ∀ (fs : List (Int × Int)) {n n' : In4} {sum s' : Int}, Sums sum → fs.foldl wf1 (some (n, sum)) = some (n', s') → (∀ f ∈ fs, Told n' f) ∧ ∀ g, Told n g → bF sum g.1 = true → Told n' g
  | [], n, n', sum, s', hs, h => by cases h; exact ⟨fun f hf => absurd hf (by simp), fun g hg _ => hg⟩
  | f :: fs, n, n', sum, s', hs, h => by
    rw [List.foldl_cons] at h
    cases h1 : wf1 (some (n, sum)) f with
    | none => rw [h1, wf_none] at h; cases h
    | some p =>
      obtain ⟨n1, s1⟩ := p
      obtain ⟨e1, e2, e3, e4⟩ := wf1_told hs h1
      rw [h1] at h
      obtain ⟨a1, a2⟩ := wf_told fs e2 h
      refine ⟨fun g hg => ?_, fun g hg hb => ?_⟩
      · rcases List.mem_cons.1 hg with rfl | hg
        · exact a2 _ e1 e3
        · exact a1 g hg
      · obtain ⟨b1, b2⟩ := e4 g hg hb
        exact a2 g b1 b2
theorem wfR_told {i : In4} {fs : List (Int × Int)} (h : (wfR i fs).2.2 = true) : ∀ f ∈ fs, Told (wfR i fs).1 f := by
  unfold wfR at h ⊢
  cases h1 : wfL i fs with
  | none => rw [h1] at h; cases h
  | some p =>
    obtain ⟨n, sum⟩ := p
    exact (wf_told fs (.inl rfl) h1).1

/-! ### Where nothing was written yet -/

theorem put_first {d : Dl} (hL : d.L = []) {c : Cg} (h : (putX d c).2 = 0) : ckOk c = true ∧ putX d c = (c, 0) ∧ (putS d c).L = [c] := by
  have hi : isX d c.pl = false := by unfold isX getL; rw [hL]; rfl
  have hx : ckOk c = true ∧ putX d c = (c, 0) := by
    unfold putX behX at h ⊢
    cases hc : ckOk c with
    | false => rw [hc] at h; cases h
    | true =>
      rw [hc, hi] at h
      rw [hi]
      simp only [Bool.false_eq_true, if_false, if_true] at h ⊢
      split at h
      · cases h
      · rename_i hm
        rw [if_neg hm]
        exact ⟨trivial, rfl⟩
  refine ⟨hx.1, hx.2, ?_⟩
  unfold putS
  rw [if_pos h, hx.2]
  dsimp only
  rw [hL]
  rfl
theorem get_first {d : Dl} {c : Cg} (h : d.L = [c]) : isX d c.pl = true ∧ wasX d c.pl = c := by
  unfold isX wasX getL
  rw [h]
  simp [plEq_self]
theorem fd_empty {s : Sg} (hL : s.d.L = []) {ino : Int} (h : (fdR s ino).2 = 0) : ino ≠ 0 ∧ stE s.l (recP ino) = 0 ∧ stB s.l (recP ino) = true ∧ (fdR s ino).1 = i4 (stI s.l (recP ino)) := by
  have hi : isX s.d (recP ino) = false := by unfold isX getL; rw [hL]; rfl
  unfold fdR fdF vgR at h ⊢
  rw [hi] at h ⊢
  simp only [Bool.false_eq_true, if_false] at h ⊢
  by_cases h0 : ino = 0
  · rw [if_pos h0] at h; cases h
  rw [if_neg h0] at h ⊢
  by_cases h1 : stE s.l (recP ino) = 0
  · rw [if_neg (by simpa using h1)] at h ⊢
    cases h2 : stB s.l (recP ino) with
    | false => rw [h2] at h; cases h
    | true => exact ⟨h0, h1, rfl, by rw [if_pos rfl]; rfl⟩
  · rw [if_pos h1] at h; exact absurd h h1
theorem fd_same {s t : Sg} (hl : t.l = s.l) (hd : t.d = s.d) (ino : Int) : fdR t ino = fdR s ino := by unfold fdR; rw [hl, hd]
/-- What Set leaves where nothing was written yet. -/
theorem set_first {s : Sg} (hL : s.d.L = []) (ino : Int) (fs : List (Int × Int)) :
    (setR s ino fs).1.R = s.R ∧ (((setR s ino fs).2 ≠ 0 ∧ (setR s ino fs).1.d = s.d ∧ (setR s ino fs).1.l = s.l ∧ (setR s ino fs).1.U = s.U) ∨
      ((setR s ino fs).2 = 0 ∧ (fdR s ino).2 = 0 ∧ ∃ j sum, Sums sum ∧ wfR (fdR s ino).1 fs = (mixI (fdR s ino).1 j sum, sum, true) ∧ fdR (setR s ino fs).1 ino = (mixI (fdR s ino).1 j sum, 0) ∧ (setR s ino fs).1.U = addK s.U ino (kindsL sum))) := by
  unfold setR setF
  by_cases he : (fdR s ino).2 = 0
  case neg => rw [if_pos he]; exact ⟨rfl, .inl ⟨he, rfl, rfl, rfl⟩⟩
  rw [if_neg (by simpa using he)]
  cases hw : (wfR (fdR s ino).1 fs).2.2 with
  | false => rw [Bool.false_and, if_pos rfl]; exact ⟨rfl, .inl ⟨by simp, rfl, rfl, rfl⟩⟩
  | true =>
    obtain ⟨j, sum, hS, h1, h2, h3⟩ := wfR_mix hw
    rw [h1, h2]
    dsimp only
    cases ho : inoOk (mixI (fdR s ino).1 j sum).k (mixI (fdR s ino).1 j sum).m (mixI (fdR s ino).1 j sum).l (mixI (fdR s ino).1 j sum).s with
    | false => rw [Bool.true_and, if_pos rfl]; exact ⟨rfl, .inl ⟨by simp, rfl, rfl, rfl⟩⟩
    | true =>
      rw [if_neg (by simp)]
      by_cases h0 : sum = 0
      · subst h0
        rw [if_pos rfl]
        refine ⟨rfl, .inr ⟨rfl, he, j, 0, hS, rfl, ?_, ?_⟩⟩
        · rw [mix0]
          exact Prod.ext rfl he
        · rfl
      rw [if_neg h0]
      by_cases hp : (putX s.d (fieldsC (recP ino) sum j.k j.m j.l j.s)).2 = 0
      case neg =>
        rw [if_pos hp]
        refine ⟨rfl, .inl ⟨hp, ?_, rfl, rfl⟩⟩
        dsimp only
        unfold putS
        rw [if_neg hp]
      rw [if_neg (by simpa using hp)]
      refine ⟨rfl, .inr ⟨rfl, he, j, sum, hS, rfl, ?_, rfl⟩⟩
      obtain ⟨p1, p2, p3⟩ := put_first hL hp
      obtain ⟨g1, g2⟩ := get_first p3
      obtain ⟨n0, e0, b0, i0⟩ := fd_empty hL he
      rw [i0]
      unfold fdR fdF vgR
      dsimp only
      rw [if_neg n0]
      have g1' : isX (putS s.d (fieldsC (recP ino) sum j.k j.m j.l j.s)) (recP ino) = true := g1
      have g2' : wasX (putS s.d (fieldsC (recP ino) sum j.k j.m j.l j.s)) (recP ino) = fieldsC (recP ino) sum j.k j.m j.l j.s := g2
      rw [g1', g2', if_pos rfl]
      have hc : chL s.l (fieldsC (recP ino) sum j.k j.m j.l j.s) = (withI (stI s.l (recP ino)) (fieldsC (recP ino) sum j.k j.m j.l j.s), true, 0) := by
        unfold chL chR
        show (if (false : Bool) then _ else if (false : Bool) then _ else if (1 : Int) = 2 then _ else if (false : Bool) then _ else if stE s.l (recP ino) ≠ 0 then _ else if (1 : Int) = 3 then _ else if stB s.l (recP ino) then _ else _) = _
        rw [if_neg (by decide), if_neg (by decide), if_neg (by decide), if_neg (by decide), if_neg (by rw [e0]; decide), if_neg (by decide), if_pos b0]
        rfl
      rw [hc]
      dsimp only
      rw [if_neg (by decide), if_pos rfl]
      rfl
/-- What Set of one size leaves of what is told. -/
theorem size_first {S : Sg} (hL : S.d.L = []) (hR : S.R = []) (ino z : Int) : ∃ k m l s s' e, fdR S ino = (⟨k, m, l, s⟩, e) ∧ fdR (setR S ino [(4, z)]).1 ino = (⟨k, m, l, s'⟩, e) ∧ (setR S ino [(4, z)]).1.R = [] ∧
    (((setR S ino [(4, z)]).2 ≠ 0 ∧ s' = s) ∨ ((setR S ino [(4, z)]).2 = 0 ∧ s' = z ∧ e = 0)) := by
  obtain ⟨h1, h2⟩ := set_first hL ino [(4, z)]
  rcases h2 with ⟨h2, h3, h4, _⟩ | ⟨h2, h3, j, sum, hS, h4, h5, _⟩
  · obtain ⟨⟨⟨k, m, l, s⟩, e⟩, hF⟩ : ∃ F, fdR S ino = F := ⟨_, rfl⟩
    exact ⟨k, m, l, s, s, e, hF, by rw [fd_same h4 h3 ino, hF], by rw [h1, hR], .inl ⟨h2, rfl⟩⟩
  · obtain ⟨⟨⟨k, m, l, s⟩, e⟩, hF⟩ : ∃ F, fdR S ino = F := ⟨_, rfl⟩
    rw [hF] at h3 h4 h5
    dsimp only at h3 h4 h5
    have e1 : wfR ⟨k, m, l, s⟩ [(4, z)] = (⟨k, m, l, z⟩, 4, true) := by
      unfold wfR wfL
      simp [wf1, show (bits BinOp.and .i64 0 4) = 0 by decide, show bits BinOp.or .i64 0 4 = 4 by decide]
    rw [e1] at h4
    have e2 := congrArg Prod.fst h4
    dsimp only at e2
    subst h3
    exact ⟨k, m, l, s, z, 0, hF, by rw [h5, ← e2], by rw [h1, hR], .inr ⟨h2, rfl, rfl⟩⟩

end Go.Proofs.YtkmckipfjahlcaaGreat
