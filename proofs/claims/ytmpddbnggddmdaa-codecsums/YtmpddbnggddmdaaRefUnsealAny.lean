/- The contract of the document's Unseal in one form. -/
import Derived.Test.YtmpddbnggddmdaaRefUnseal
namespace Go.Proofs.Ytmpddbnggddmdaa
open Go.RowKit
set_option linter.unusedVariables false

theorem beq_strOf {a b : List Int} (ha : Byt a) (hb : Byt b) : ((strOfNums a).toList == (strOfNums b).toList) = decide (a = b) := by
  rw [ByteArray.toList_eq, ByteArray.toList_eq, Bool.eq_iff_iff, decide_eq_true_iff, beq_iff_eq]
  exact ⟨fun h => toU_inj a b ha hb h, fun e => by rw [e]⟩

theorem body_tail (xs : List Int) : bodyB xs ++ tailB xs = xs := List.take_append_drop _ _

theorem refUnseal_any (w : World) (v : Value) (xs : List Int) (h : Rd w v xs) (hy : Byt xs) (hl : xs.length ≤ 140737488351232) :
    Calls Try.prog 22 #[v] w fun e w' => ∃ u, e = .returned (.tuple #[u, .int .i64 (unE xs)]) ∧ Own w' w.heap.size u (unB xs) ∧ Below w.heap.size w w' := by
  obtain ⟨a, cap, rfl, hcap, hm, hnn, hne⟩ := h
  have hx : Rd w (.slice a xs.length cap) xs := ⟨a, cap, rfl, hcap, hm, hnn, hne⟩
  by_cases h4 : xs.length < 4
  · have e1 : unE xs = 10 := if_pos h4
    have e2 : unB xs = [] := by unfold unB; rw [e1]; rfl
    rw [e1, e2]
    refine (refUnseal_short w a _ cap h4).mono ?_
    rintro e w' ⟨rfl, rfl⟩
    exact ⟨_, rfl, Own.nil _ _, Below.refl _ _⟩
  · obtain ⟨b, off, rfl, hbl, hc⟩ := hne (by intro e; subst e; simp at h4)
    have hbody : (bodyB xs).length = xs.length - 4 := by unfold bodyB; simp
    have hn : xs.length = (xs.length - 4) + 4 := by omega
    have hyb : Byt (bodyB xs) := hy.take _
    have hbs := beq_strOf (seal_byt hyb) hy
    generalize hm4 : xs.length - 4 = n at *
    have hr : Rd w (.slice (some ⟨b, off, none⟩) n cap) (bodyB xs) := by
      refine ⟨_, cap, by rw [hbody], by omega, hm, (by intro e; cases e), fun _ => ⟨b, off, rfl, hbl, fun i hi => ?_⟩⟩
      rw [hc i (by omega)]
      unfold bodyB
      rw [hm4]
      simp [show i < n from by omega]
    rw [hn] at hx ⊢
    by_cases hq : tailB xs = sealB (bodyB xs)
    · have e1 : unE xs = 0 := by unfold unE; rw [if_neg h4, if_pos hq]
      have e2 : unB xs = bodyB xs := by unfold unB; rw [e1]; rfl
      rw [e1, e2]
      exact refUnseal_yes w b off n cap xs (bodyB xs) (by omega) hm hy hyb hx hr (by omega) (hbs.trans (decide_eq_true (by rw [← hq]; exact body_tail xs)))
    · have e1 : unE xs = 12 := by unfold unE; rw [if_neg h4, if_neg hq]
      have e2 : unB xs = [] := by unfold unB; rw [e1]; rfl
      rw [e1, e2]
      refine (refUnseal_no w b off n cap xs (bodyB xs) (by omega) hm hy hyb hx hr (by omega) (hbs.trans (decide_eq_false (fun e => hq ?_)))).mono ?_
      · have h1 := body_tail xs
        exact (List.append_cancel_left (e.trans h1.symm)).symm
      · rintro e w' ⟨rfl, hb⟩
        exact ⟨_, rfl, Own.nil _ _, hb⟩
end Go.Proofs.Ytmpddbnggddmdaa
