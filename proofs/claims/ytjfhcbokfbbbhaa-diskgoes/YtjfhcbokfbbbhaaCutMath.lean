/- Which of the pending blocks survives a cut, block by block. -/
import Derived.Test.YtjfhcbokfbbbhaaSafeMath
namespace Go.Proofs.Ytjfhcbokfbbbhaa
open Go.RowKit Go.Maps
set_option linter.unusedVariables false

/-- For how many blocks below something is pending. -/
def cnt (M : Int → Option (List Int)) (i : Nat) : Nat := ((List.range i).filter fun j : Nat => (M j).isSome).length

theorem cnt_succ (M : Int → Option (List Int)) (i : Nat) : cnt M (i + 1) = cnt M i + (if (M i).isSome then 1 else 0) := by
  unfold cnt
  rw [List.range_succ, List.filter_append, List.length_append]
  cases h : (M i).isSome <;> simp [h]

theorem cnt_le (M : Int → Option (List Int)) (i : Nat) : cnt M i ≤ i := by
  have := List.length_filter_le (fun j : Nat => (M j).isSome) (List.range i)
  simpa [cnt] using this

theorem filter_at (P : Nat → Bool) (N i : Nat) (hi : i < N) (hP : P i = true) : ((List.range N).filter P)[((List.range i).filter P).length]? = some i := by
  have e : List.range N = List.range i ++ i :: (List.range (N - i - 1)).map (i + 1 + ·) := by
    have h1 : List.range N = List.range (i + 1 + (N - i - 1)) := by congr 1; omega
    rw [h1, List.range_add, List.range_succ, List.append_assoc]
    rfl
  rw [e, List.filter_append, List.filter_cons_of_pos hP, List.getElem?_append_right (Nat.le_refl _)]
  simp

theorem keysOf_nat (M : Int → Option (List Int)) : keysOf M = ((List.range 1024).filter fun j : Nat => (M j).isSome).map Int.ofNat := by
  unfold keysOf
  rw [List.filter_map]
  rfl

theorem key_at {M : Int → Option (List Int)} {i : Nat} (hi : i < 1024) (hM : (M i).isSome = true) : (keysOf M)[cnt M i]? = some (i : Int) := by
  rw [keysOf_nat, List.getElem?_map]
  unfold cnt
  rw [filter_at (fun j : Nat => (M j).isSome) 1024 i hi hM]
  rfl

/-- The k-th of those that are settled. -/
theorem settleN_at (f : Nat → Bool) (s : St) (ks : List Int) (hn : ks.Nodup) : ∀ m, m ≤ ks.length → (∀ k, k < m → (settleN f s ks m).safe (ks.getD k 0) = if f k then (s.pend (ks.getD k 0)).getD zeroB else s.safe (ks.getD k 0)) ∧ ∀ j, j ∉ ks.take m → (settleN f s ks m).safe j = s.safe j
  | 0, _ => ⟨fun k hk => by omega, fun j _ => rfl⟩
  | m + 1, hm => by
    obtain ⟨ih1, ih2⟩ := settleN_at f s ks hn m (by omega)
    have hp := settleN_pend f s ks m (by omega) (ks.getD m 0)
    rw [if_neg (nodup_take hn (by omega))] at hp
    have hself := ih2 _ (nodup_take hn (k := m) (by omega))
    refine ⟨fun k hk => ?_, fun j hj => ?_⟩
    · unfold settleN settleSt safeSt
      by_cases e : k = m
      · subst e
        cases f k
        · simp only [Bool.false_eq_true, if_false]; exact hself
        · simp only [if_true]; rw [upd_same, hp]
      · have hne : ks.getD k 0 ≠ ks.getD m 0 := by
          intro h
          have hp := List.pairwise_iff_getElem.1 hn k m (by omega) (by omega) (by omega)
          apply hp
          simpa [List.getElem?_eq_getElem (show k < ks.length by omega), List.getElem?_eq_getElem (show m < ks.length by omega)] using h
        have := ih1 k (by omega)
        cases f m
        · simp only [Bool.false_eq_true, if_false]; exact this
        · simp only [if_true]; rw [upd_other _ _ _ hne]; exact this
    · have hj1 : j ∉ ks.take m := fun h => hj ((take_succ_mem (by omega) _).2 (.inl h))
      have hj2 : j ≠ ks.getD m 0 := fun h => hj ((take_succ_mem (by omega) _).2 (.inr h))
      unfold settleN settleSt safeSt
      cases f m
      · simp only [Bool.false_eq_true, if_false]; exact ih2 j hj1
      · simp only [if_true]; rw [upd_other _ _ _ hj2]; exact ih2 j hj1

theorem cut_at {s : St} (h : Good s) (m : ByteArray) (i : Nat) (hi : i < 1024) :
    (cutSt s m).safe i = match s.pend i with | some c => if surv m (cnt s.pend i) then c else s.safe i | none => s.safe i := by
  have e : (cutSt s m).safe i = (settleN (surv m) s (keysOf s.pend) (keysOf s.pend).length).safe i := by simp only [cutSt]
  rw [e]
  obtain ⟨h1, h2⟩ := settleN_at (surv m) s (keysOf s.pend) (keysOf_nodup _) _ (Nat.le_refl _)
  cases hp : s.pend i with
  | none =>
    exact h2 i (by rw [List.take_length, good_keys h, hp]; simp)
  | some c =>
    have hk := key_at (M := s.pend) hi (by rw [hp]; rfl)
    have hlt : cnt s.pend i < (keysOf s.pend).length := (List.getElem?_eq_some_iff.1 hk).1
    have hg : (keysOf s.pend).getD (cnt s.pend i) 0 = (i : Int) := by rw [List.getD_eq_getElem?_getD, hk]; rfl
    have := h1 _ hlt
    rw [hg, hp] at this
    exact this

end Go.Proofs.Ytjfhcbokfbbbhaa
