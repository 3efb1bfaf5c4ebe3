/- The contract of codec.Unseal in one form. -/
import Derived.Test.YtmpddbnggddmdaaUnseal
namespace Go.Proofs.Ytmpddbnggddmdaa
open Go.RowKit
set_option linter.unusedVariables false

/-- Any four bytes or more are some bytes, and four behind them. -/
theorem four_of (L : List Int) (h : L.length = 4) : ∃ t0 t1 t2 t3, L = [t0, t1, t2, t3] := by
  match L, h with
  | [a, b, c, d], _ => exact ⟨a, b, c, d, rfl⟩

theorem unsealI_any (w : World) (v : Value) (xs : List Int) (h : Rd w v xs) (hy : Byt xs) (hl : xs.length ≤ 140737488355328) :
    Calls Try.prog 21 #[v] w fun e w' => ∃ u, e = .returned (.tuple #[u, .int .i64 (unE xs)]) ∧ OwnI w' w.heap.size u (unB xs) ∧ Below w.heap.size w w' := by
  obtain ⟨a, cap, rfl, hcap, hm, hnn, hne⟩ := h
  by_cases h4 : xs.length < 4
  · have e1 : unE xs = 10 := if_pos h4
    have e2 : unB xs = [] := by unfold unB; rw [e1]; rfl
    rw [e1, e2]
    refine (unseal_short w a _ cap h4).mono ?_
    rintro e w' ⟨rfl, rfl⟩
    exact ⟨_, rfl, OwnI.nil _ _, Below.refl _ _⟩
  · obtain ⟨b, off, rfl, hbl, hc⟩ := hne (by intro e; subst e; simp at h4)
    have hbody : (bodyB xs).length = xs.length - 4 := by unfold bodyB; simp
    have htail : (tailB xs).length = 4 := by unfold tailB; simp; omega
    obtain ⟨t0, t1, t2, t3, ht⟩ := four_of _ htail
    have hn : xs.length = (xs.length - 4) + 4 := by omega
    generalize hm4 : xs.length - 4 = n at *
    have hr : Rd w (.slice (some ⟨b, off, none⟩) n cap) (bodyB xs) := by
      refine ⟨_, cap, by rw [hbody], by omega, hm, (by intro e; cases e), fun _ => ⟨b, off, rfl, hbl, fun i hi => ?_⟩⟩
      rw [hc i (by omega)]
      unfold bodyB
      rw [hm4]
      simp [show i < n from by omega]
    have hyb : Byt (bodyB xs) := hy.take _
    have hyt : Byt [t0, t1, t2, t3] := by rw [← ht]; exact hy.drop _
    have hct : ∀ j u, j < 4 → [t0, t1, t2, t3].getD j 0 = u → w.cell? ⟨b, off + (n + j), none⟩ = some (.int .u8 u) := by
      intro j u hj hu
      rw [hc (n + j) (by omega), ← hu, ← ht]
      unfold tailB
      rw [hm4]
      simp
    have c0 := hct 0 t0 (by omega) rfl
    have c1 := hct 1 t1 (by omega) rfl
    have c2 := hct 2 t2 (by omega) rfl
    have c3 := hct 3 t3 (by omega) rfl
    rw [hn]
    by_cases hq : tailB xs = sealB (bodyB xs)
    · have e1 : unE xs = 0 := by unfold unE; rw [if_neg h4, if_pos hq]
      have e2 : unB xs = bodyB xs := by unfold unB; rw [e1]; rfl
      rw [e1, e2]
      exact unseal_yes w b off n cap (bodyB xs) t0 t1 t2 t3 (by omega) hm hyb hyt hr hbl (by omega) c0 c1 c2 c3 (by rw [← ht]; exact hq)
    · have e1 : unE xs = 12 := by unfold unE; rw [if_neg h4, if_neg hq]
      have e2 : unB xs = [] := by unfold unB; rw [e1]; rfl
      rw [e1, e2]
      refine (unseal_no w b off n cap (bodyB xs) t0 t1 t2 t3 (by omega) hm hyb hyt hr hbl (by omega) c0 c1 c2 c3 (by rw [← ht]; exact hq)).mono ?_
      rintro e w' ⟨rfl, hb⟩
      exact ⟨_, rfl, OwnI.nil _ _, hb⟩
theorem unseal_any (w : World) (v : Value) (xs : List Int) (h : Rd w v xs) (hy : Byt xs) (hl : xs.length ≤ 140737488355328) :
    Calls Try.prog 21 #[v] w fun e w' => ∃ u, e = .returned (.tuple #[u, .int .i64 (unE xs)]) ∧ Own w' w.heap.size u (unB xs) ∧ Below w.heap.size w w' :=
  (unsealI_any w v xs h hy hl).mono fun e w' ⟨u, h1, h2, h3⟩ => ⟨u, h1, h2.own, h3⟩
end Go.Proofs.Ytmpddbnggddmdaa
