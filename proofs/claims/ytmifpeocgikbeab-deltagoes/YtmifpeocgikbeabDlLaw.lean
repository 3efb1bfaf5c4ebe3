/- What Put tells, in plain words. -/
import Derived.Test.YtmifpeocgikbeabDlN
import Derived.Test.YtmifpeocgikbeabDlLive0
namespace Go.Proofs.Ytmifpeocgikbeab
open Go.RowKit
set_option linter.unusedVariables false
set_option linter.unusedSimpArgs false
set_option maxRecDepth 4000

theorem joinX_err (a b : Cg) : (joinX a b).2 = 0 ∨ (joinX a b).2 = 1 ∨ (joinX a b).2 = 3 := by
  unfold joinX jRX jDX
  repeat' split
  all_goals first | exact .inl rfl | exact .inr (.inl rfl) | exact .inr (.inr rfl)
theorem put_zero {s : Dl} {c : Cg} (h : (putX s c).2 = 0) : ckOk c = true := by
  unfold putX behX at h
  cases hk : ckOk c
  · rw [hk] at h; cases h
  · rfl
theorem put_big {s : Dl} {c : Cg} (h : (putX s c).2 = 201) : isX s c.pl = false ∧ s.most ≤ s.L.length := by
  unfold putX behX at h
  cases hk : ckOk c
  · rw [hk] at h; cases h
  rw [hk] at h
  simp only [if_true] at h
  cases hi : isX s c.pl
  · rw [hi] at h
    simp only [Bool.false_eq_true, if_false] at h
    split at h
    · rename_i hm; exact ⟨rfl, hm⟩
    · cases h
  · rw [hi] at h
    simp only [if_true] at h
    rcases joinX_err (wasX s c.pl) c with e | e | e <;> omega
theorem putS_len {s : Dl} (hs : DlOk s) {c : Cg} (hc : CgOk c) (h : (s.L.length : Int) ≤ s.most) : ((putS s c).L.length : Int) ≤ s.most ∧ (putS s c).L.length ≤ s.L.length + 1 ∧ (putS s c).pus.length ≤ s.pus.length + 1 ∧ (putS s c).most = s.most := by
  unfold putS
  split
  · rename_i h0
    have hpl := putX_pl h0
    dsimp only
    refine ⟨?_, setL_len _ _, by simp, rfl⟩
    cases hg : getL s.L c.pl with
    | some d => rw [setL_old hs.L (putX_ok hs hc) (d := d) (by rw [hpl]; exact hg)]; exact h
    | none =>
      rw [setL_new (by rw [hpl]; exact hg)]
      have hi : isX s c.pl = false := by unfold isX; rw [hg]; rfl
      unfold putX behX at h0
      rw [hi] at h0
      cases hk : ckOk c
      · rw [hk] at h0; cases h0
      rw [hk] at h0
      simp only [if_true, Bool.false_eq_true, if_false] at h0
      split at h0
      · cases h0
      · omega
  · exact ⟨h, Nat.le_succ _, Nat.le_succ _, rfl⟩
theorem putS_lens {s : Dl} {c : Cg} : (putS s c).L.length ≤ s.L.length + 1 ∧ (putS s c).pus.length ≤ s.pus.length + 1 ∧ (putS s c).most = s.most := by
  unfold putS
  split
  · exact ⟨setL_len _ _, by simp, rfl⟩
  · exact ⟨Nat.le_succ _, Nat.le_succ _, rfl⟩
theorem putS_err {s : Dl} {c : Cg} (h : (putX s c).2 ≠ 0) : putS s c = s := by
  unfold putS; rw [if_neg h]
theorem tm_bd (a : Int) : -10 < a.tmod 10 ∧ a.tmod 10 < 10 := by
  obtain ⟨n, rfl | rfl⟩ := Int.eq_nat_or_neg a
  · rw [Int.tmod_eq_emod_of_nonneg (by omega)]; omega
  · rw [Int.neg_tmod, Int.tmod_eq_emod_of_nonneg (by omega)]; omega
theorem tm_pos {a : Int} (h : 0 ≤ a) : 0 ≤ a.tmod 10 ∧ a.tmod 10 < 10 := by
  rw [Int.tmod_eq_emod_of_nonneg h]; omega
theorem ckE_0 {c : Cg} (h : ckOk c = true) : ckE c = 0 := by unfold ckE; rw [h]; rfl

end Go.Proofs.Ytmifpeocgikbeab
