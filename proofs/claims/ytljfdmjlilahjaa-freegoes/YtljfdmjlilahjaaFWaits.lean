/- What is wanted for the statement on those that wait: numbers cut to a few, rows that stay, what a Sweep leaves. -/
import Derived.Test.YtljfdmjlilahjaaFMath
import Derived.Test.YtljfdmjlilahjaaFLive
namespace Go.Proofs.Ytljfdmjlilahjaa
open Go.RowKit
set_option linter.unusedVariables false
set_option linter.unusedSimpArgs false
set_option maxRecDepth 4000

/-- 1 + (x % m + m) % m as the program counts it. -/
theorem mod_plus (x : Int) (m : Nat) (h1 : -9223372036854775808 ≤ x) (h2 : x ≤ 9223372036854775807) (hm : 0 < m) (hm2 : m ≤ 1000) : ∃ r : Nat, wrap64 (1 + (wrap64 (x.tmod m + m)).tmod m) = (r : Int) ∧ 1 ≤ r ∧ r ≤ m := by
  have t1 := Int.tmod_lt_of_pos x (show (0 : Int) < m by omega)
  have t2 := Int.lt_tmod_of_pos x (show (0 : Int) < m by omega)
  have e : wrap64 (x.tmod m + m) = x.tmod m + m := by unfold wrap64; omega
  rw [e, Int.tmod_eq_emod_of_nonneg (by omega)]
  have p1 := Int.emod_nonneg (x.tmod m + m) (show (m : Int) ≠ 0 by omega)
  have p2 := Int.emod_lt_of_pos (x.tmod m + m) (show (0 : Int) < m by omega)
  generalize (x.tmod m + m) % m = y at *
  have e2 : wrap64 (1 + y) = 1 + y := by unfold wrap64; omega
  rw [e2]
  exact ⟨(1 + y).toNat, by omega, by omega, by omega⟩

theorem rdI_own {W : World} {base : Nat} {u : Value} {l : List Nat} (h : W.ownsRow base 3 1 u l.length (natC l)) {q : Nat} (hq : q < base) {W' : World} (hS : Sole [q] W W') : RdI W' u (l.map (fun (x : Nat) => (x : Int))) := by
  rcases Nat.eq_zero_or_pos l.length with h0 | hp
  · obtain ⟨a, c, rfl⟩ := rowI_slice h
    have hc : c ≤ maxLen := by
      rcases h.2 with ⟨e, _⟩ | ⟨q, cap, cur, e, _, _, h1, h2, _⟩
      · simp only [Value.slice.injEq] at e; obtain ⟨_, _, rfl⟩ := e; decide
      · simp only [Value.slice.injEq] at e; obtain ⟨_, _, rfl⟩ := e; exact h2
    have hl : l = [] := List.length_eq_zero_iff.1 h0
    subst hl
    exact ⟨a, c, rfl, Nat.zero_le _, hc, fun h => by simp at h⟩
  · have hc : ∀ a c, u = .slice a l.length c → l.length ≤ c ∧ c ≤ maxLen := fun a c e0 => by
      rcases h.2 with ⟨e, h0⟩ | ⟨q, cap, cur, e, _, _, h1, h2, _⟩
      · omega
      · rw [e0] at e; simp only [Value.slice.injEq] at e; obtain ⟨_, _, rfl⟩ := e; exact ⟨h1, h2⟩
    obtain ⟨g, c, rfl, h1, h2, h3⟩ := natC_at h hp
    obtain ⟨k1, k2⟩ := hc _ _ rfl
    refine ⟨some ⟨g, 0, none⟩, c, by rw [List.length_map], by rw [List.length_map]; exact k1, k2, fun _ => ⟨g, 0, rfl, Nat.lt_of_lt_of_le h2 hS.size, fun i x hx => ?_⟩⟩
    rw [List.getElem?_map] at hx
    cases hy : l[i]? with
    | none => rw [hy] at hx; cases hx
    | some y =>
      rw [hy] at hx
      simp only [Option.map_some, Option.some.injEq] at hx
      subst hx
      rw [World.cell?_of_block (w := W) (a := ⟨g, 0 + i, none⟩) (hS.block g h2 (by simp; omega)), Nat.zero_add]
      exact h3 i y hy

theorem sweepK_get (s : Fr) (l : List Int) (i : Nat) (hi : i < s.ks.length) : ∀ j, j ≤ s.ks.length → (sweepK s l j).getD i 0 = if i < j ∧ s.ks.getD i 0 = 3 ∧ ¬ ((s.lo + i : Nat) : Int) ∈ l then 1 else s.ks.getD i 0 := by
  intro j
  induction j with
  | zero => intro _; rw [if_neg (by omega)]; rfl
  | succ j ih =>
    intro hj
    have ih := ih (by omega)
    unfold sweepK
    by_cases e : i = j
    · subst e
      rw [if_neg (by omega)] at ih
      by_cases hd : s.ks.getD i 0 = 3 ∧ ¬ ((s.lo + i : Nat) : Int) ∈ l
      · rw [if_pos hd, if_pos ⟨by omega, hd⟩, List.getD_eq_getElem?_getD, List.getElem?_set_self (by rw [sweepK_len]; exact hi)]
        rfl
      · rw [if_neg hd, if_neg (fun h => hd h.2)]
        exact ih
    · have hs : ∀ v, ((sweepK s l j).set j v).getD i 0 = (sweepK s l j).getD i 0 := fun v => by
        rw [List.getD_eq_getElem?_getD, List.getElem?_set_ne (by omega), List.getD_eq_getElem?_getD]
      have hif : ((if s.ks.getD j 0 = 3 ∧ ¬ ((s.lo + j : Nat) : Int) ∈ l then (sweepK s l j).set j 1 else sweepK s l j)).getD i 0 = (sweepK s l j).getD i 0 := by
        split
        · exact hs 1
        · rfl
      rw [hif, ih]
      by_cases hd : s.ks.getD i 0 = 3 ∧ ¬ ((s.lo + i : Nat) : Int) ∈ l
      · by_cases hlt : i < j
        · rw [if_pos ⟨hlt, hd⟩, if_pos ⟨by omega, hd⟩]
        · rw [if_neg (fun h => hlt h.1), if_neg (fun h => by have := h.1; omega)]
      · rw [if_neg (fun h => hd h.2), if_neg (fun h => hd h.2)]

theorem sweep_ok {s : Fr} (h : FrOk s) (l : List Int) : FrOk (sweepF s l) := by
  refine ⟨by show 0 < (sweepK s l s.ks.length).length; rw [sweepK_len]; exact h.any, by show s.lo + (sweepK s l s.ks.length).length ≤ 1024; rw [sweepK_len]; exact h.most, fun k hk => ?_⟩
  obtain ⟨i, hi, e⟩ := List.mem_iff_getElem.1 hk
  have hi' : i < s.ks.length := by have := hi; rw [show (sweepF s l).ks = sweepK s l s.ks.length from rfl, sweepK_len] at this; exact this
  have hg := sweepK_get s l i hi' s.ks.length (Nat.le_refl _)
  have e2 : (sweepK s l s.ks.length).getD i 0 = k := by
    show (sweepF s l).ks.getD i 0 = k
    rw [List.getD_eq_getElem?_getD, List.getElem?_eq_getElem hi]; exact e
  rw [e2] at hg
  split at hg
  · omega
  · rw [hg, List.getD_eq_getElem?_getD, List.getElem?_eq_getElem hi']
    exact h.kinds _ (List.getElem_mem hi')

/-- What waited waits still just if it was kept. -/
theorem sweep_waits {s : Fr} {l : List Int} {x : Nat} (hx : x ∈ blocksL s 3) : x ∈ blocksL (sweepF s l) 3 ↔ (x : Int) ∈ l := by
  obtain ⟨i, h1, h2, rfl⟩ := upto_mem.1 hx
  have hg := sweepK_get s l i h1 s.ks.length (Nat.le_refl _)
  constructor
  · intro h
    obtain ⟨i', _, h2', e⟩ := upto_mem.1 h
    have : i' = i := by have : (sweepF s l).lo = s.lo := rfl; omega
    subst this
    have h2' : (sweepK s l s.ks.length).getD i' 0 = 3 := h2'
    rw [hg] at h2'
    split at h2'
    · cases h2'
    · rename_i hn
      exact Classical.byContradiction fun q => hn ⟨h1, h2, q⟩
  · intro h
    refine upto_mem.2 ⟨i, by show i < (sweepK s l s.ks.length).length; rw [sweepK_len]; exact h1, ?_, rfl⟩
    show (sweepK s l s.ks.length).getD i 0 = 3
    rw [hg, if_neg (fun q => q.2.2 h)]
    exact h2

/-- What waits lies in no run that is free. -/
theorem run_waits {s : Fr} {N b x : Nat} (hr : RunAt s.ks N b) (hx : x ∈ blocksL s 3) : ¬ (s.lo + b ≤ x ∧ x < s.lo + b + N) := by
  obtain ⟨i, h1, h2, rfl⟩ := upto_mem.1 hx
  rintro ⟨q1, q2⟩
  have := hr (i - b) (by omega)
  rw [show b + (i - b) = i from by omega, h2] at this
  cases this

theorem turn_ok {s : Fr} (h : FrOk s) (i : Int) (to : Nat) (ht : 1 ≤ to ∧ to ≤ 3) : FrOk (turnF s i to) := by
  unfold turnF
  split
  · exact set_ok (lo := s.lo) (ks := s.ks) h _ _ ht
  · exact h

end Go.Proofs.Ytljfdmjlilahjaa
