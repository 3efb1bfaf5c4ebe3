/- What a Barrier and a cut leave. -/
import Derived.Test.YtjfhcbokfbbbhaaArmedMath
namespace Go.Proofs.Ytjfhcbokfbbbhaa
open Go.RowKit Go.Maps
set_option linter.unusedVariables false

theorem take_succ_mem {ks : List Int} {k : Nat} (hk : k < ks.length) (j : Int) : j ∈ ks.take (k + 1) ↔ j ∈ ks.take k ∨ j = ks.getD k 0 := by
  have e : ks.take (k + 1) = ks.take k ++ [ks.getD k 0] := by
    rw [List.take_add_one, List.getElem?_eq_getElem hk, List.getD_eq_getElem?_getD, List.getElem?_eq_getElem hk]
    rfl
  rw [e, List.mem_append, List.mem_singleton]

theorem settleSt_pend (s : St) (i : Int) (b : Bool) : (settleSt s i b).pend = upd s.pend i none := by
  unfold settleSt
  rfl

theorem settleN_pend (f : Nat → Bool) (s : St) (ks : List Int) : ∀ k, k ≤ ks.length → ∀ j, (settleN f s ks k).pend j = if j ∈ ks.take k then none else s.pend j
  | 0, _, j => by simp [settleN]
  | k + 1, hk, j => by
    have ih := settleN_pend f s ks k (by omega)
    unfold settleN
    rw [settleSt_pend]
    by_cases e : j = ks.getD k 0
    · subst e
      rw [upd_same, if_pos ((take_succ_mem (by omega) _).2 (.inr rfl))]
    · rw [upd_other _ _ _ e, ih]
      by_cases h : j ∈ ks.take k
      · rw [if_pos h, if_pos ((take_succ_mem (by omega) _).2 (.inl h))]
      · rw [if_neg h, if_neg (fun h' => ((take_succ_mem (by omega) _).1 h').elim h e)]

theorem nodup_take {ks : List Int} (hn : ks.Nodup) {k : Nat} (hk : k < ks.length) : ks.getD k 0 ∉ ks.take k := by
  intro h
  obtain ⟨m, hm, e⟩ := List.mem_iff_getElem.1 h
  rw [List.length_take] at hm
  rw [List.getElem_take, List.getD_eq_getElem?_getD, List.getElem?_eq_getElem hk] at e
  have hp := List.pairwise_iff_getElem.1 hn m k (by omega) hk (by omega)
  exact hp e

/-- Each block's safe bytes are what they were, or what was pending. -/
theorem settleN_safe (f : Nat → Bool) (s : St) (ks : List Int) (hn : ks.Nodup) : ∀ k, k ≤ ks.length → ∀ j, (settleN f s ks k).safe j = s.safe j ∨ (j ∈ ks.take k ∧ (settleN f s ks k).safe j = (s.pend j).getD zeroB)
  | 0, _, j => .inl rfl
  | k + 1, hk, j => by
    have ih := settleN_safe f s ks hn k (by omega) j
    have hp := settleN_pend f s ks k (by omega) (ks.getD k 0)
    rw [if_neg (nodup_take hn (by omega))] at hp
    unfold settleN settleSt safeSt
    cases f k
    · simp only [Bool.false_eq_true, if_false]
      exact ih.imp id (fun h => ⟨(take_succ_mem (by omega) _).2 (.inl h.1), h.2⟩)
    · simp only [if_true]
      by_cases e : j = ks.getD k 0
      · subst e
        rw [upd_same, hp]
        exact .inr ⟨(take_succ_mem (by omega) _).2 (.inr rfl), rfl⟩
      · rw [upd_other _ _ _ e]
        exact ih.imp id (fun h => ⟨(take_succ_mem (by omega) _).2 (.inl h.1), h.2⟩)

/-- All survives: each that was settled is what was pending. -/
theorem settleN_all (s : St) (ks : List Int) (hn : ks.Nodup) : ∀ k, k ≤ ks.length → ∀ j, (settleN (fun _ => true) s ks k).safe j = if j ∈ ks.take k then (s.pend j).getD zeroB else s.safe j
  | 0, _, j => by simp [settleN]
  | k + 1, hk, j => by
    have ih := settleN_all s ks hn k (by omega) j
    have hp := settleN_pend (fun _ => true) s ks k (by omega) (ks.getD k 0)
    rw [if_neg (nodup_take hn (by omega))] at hp
    unfold settleN settleSt safeSt
    simp only [if_true]
    by_cases e : j = ks.getD k 0
    · subst e
      rw [upd_same, hp, if_pos ((take_succ_mem (by omega) _).2 (.inr rfl))]
    · rw [upd_other _ _ _ e, ih]
      by_cases h : j ∈ ks.take k
      · rw [if_pos h, if_pos ((take_succ_mem (by omega) _).2 (.inl h))]
      · rw [if_neg h, if_neg (fun h' => ((take_succ_mem (by omega) _).1 h').elim h e)]

theorem good_keys {s : St} (h : Good s) (j : Int) : j ∈ keysOf s.pend ↔ (s.pend j).isSome = true :=
  mem_keysOf (fun i c hc => ⟨(h.pend i c hc).1, by have := (h.pend i c hc).2.1; have := h.b1; omega⟩) j

theorem allSafe_pend {s : St} (h : Good s) (j : Int) : (allSafe s).pend j = none := by
  unfold allSafe
  rw [settleN_pend _ _ _ _ (Nat.le_refl _), List.take_length]
  by_cases hj : j ∈ keysOf s.pend
  · rw [if_pos hj]
  · rw [if_neg hj]
    rw [good_keys h] at hj
    simpa using hj

theorem allSafe_safe {s : St} (h : Good s) (j : Int) : (allSafe s).safe j = seen s j := by
  unfold allSafe seen
  rw [settleN_all s _ (keysOf_nodup _) _ (Nat.le_refl _), List.take_length]
  by_cases hj : j ∈ keysOf s.pend
  · rw [if_pos hj]
    rw [good_keys h] at hj
    obtain ⟨c, hc⟩ := Option.isSome_iff_exists.1 hj
    rw [hc]; rfl
  · rw [if_neg hj]
    rw [good_keys h] at hj
    cases hc : s.pend j with
    | none => rfl
    | some c => rw [hc] at hj; simp at hj

theorem cut_pend {s : St} (h : Good s) (m : ByteArray) (j : Int) : (cutSt s m).pend j = none := by
  have e : (cutSt s m).pend j = (settleN (surv m) s (keysOf s.pend) (keysOf s.pend).length).pend j := by simp only [cutSt]
  rw [e, settleN_pend _ _ _ _ (Nat.le_refl _), List.take_length]
  by_cases hj : j ∈ keysOf s.pend
  · rw [if_pos hj]
  · rw [if_neg hj]
    rw [good_keys h] at hj
    simpa using hj

theorem cut_safe {s : St} (h : Good s) (m : ByteArray) (j : Int) : (cutSt s m).safe j = s.safe j ∨ ∃ c, s.pend j = some c ∧ (cutSt s m).safe j = c := by
  have e : (cutSt s m).safe j = (settleN (surv m) s (keysOf s.pend) (keysOf s.pend).length).safe j := by simp only [cutSt]
  rw [e]
  rcases settleN_safe (surv m) s (keysOf s.pend) (keysOf_nodup _) _ (Nat.le_refl _) j with h1 | ⟨h1, h2⟩
  · exact .inl h1
  · rw [List.take_length, good_keys h] at h1
    obtain ⟨c, hc⟩ := Option.isSome_iff_exists.1 h1
    exact .inr ⟨c, hc, by rw [h2, hc]; rfl⟩

theorem cut_blocks (s : St) (m : ByteArray) : (cutSt s m).blocks = s.blocks := by unfold cutSt; simp only [settleN_blocks]

/-- A disk of eight blocks, on, not armed. -/
structure Un (s : St) : Prop where
  b : s.blocks = 8
  on : s.off = false
  un : s.armed = false

theorem un_due {s : St} (h : Un s) : due s = false := by unfold due; rw [h.un]; rfl

theorem un_done {s : St} (h : Un s) (i : Int) (xs : List Int) : Un (doneSt s i xs) := by
  unfold doneSt countSt
  rw [h.un]
  exact ⟨h.b, h.on, h.un⟩

theorem done_safe {s : St} (h : Un s) (i : Int) (xs : List Int) : (doneSt s i xs).safe = s.safe := by
  unfold doneSt countSt
  rw [h.un]
  rfl

theorem done_pend (s : St) (i : Int) (xs : List Int) : (doneSt s i xs).pend = upd s.pend i (some xs) := by
  unfold doneSt
  rfl

theorem done_seen {s : St} (h : Un s) (i : Int) (xs : List Int) (j : Int) : seen (doneSt s i xs) j = upd (seen s) i xs j := by
  unfold seen
  rw [done_safe h, done_pend]
  by_cases e : j = i
  · subst e; rw [upd_same, upd_same]; rfl
  · rw [upd_other _ _ _ e, upd_other _ _ _ e]

theorem un_write {s : St} (h : Un s) {i : Int} {xs : List Int} (hl : xs.length = 512) :
    (0 ≤ i ∧ i < 8 ∧ writeOut s i xs = (0, doneSt s i xs)) ∨ ((i < 0 ∨ 8 ≤ i) ∧ writeOut s i xs = (21, s)) := by
  by_cases hi : i < 0 ∨ 8 ≤ i
  · refine .inr ⟨hi, ?_⟩
    have hu : useErr s i = 21 := by unfold useErr; rw [h.on, h.b]; simp [hi]
    unfold writeOut
    rw [hu]
    simp
  · exact .inl ⟨by omega, by omega, writeOut_ok h.on (by omega) (by rw [h.b]; omega) hl (un_due h)⟩

theorem un_bar {s : St} (h : Un s) : barOut s = (0, allSafe s) := by
  unfold barOut
  rw [h.on, un_due h]
  simp

theorem un_allSafe {s : St} (h : Un s) : Un (allSafe s) := by
  unfold allSafe
  exact ⟨by rw [settleN_blocks]; exact h.b, by rw [settleN_off]; exact h.on, by rw [settleN_armed]; exact h.un⟩

theorem un_fresh : Un (freshSt 8) := ⟨rfl, rfl, rfl⟩

theorem un_use {s : St} (h : Un s) {i : Int} (h0 : 0 ≤ i) (h1 : i < 8) : useErr s i = 0 := by
  unfold useErr; rw [h.on, h.b]; simp; omega

end Go.Proofs.Ytjfhcbokfbbbhaa
