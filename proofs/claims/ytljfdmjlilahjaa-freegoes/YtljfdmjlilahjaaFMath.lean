/- The list of the free blocks, and the first run (mathematics alone). -/
import Derived.Test.YtljfdmjlilahjaaFLists
import Derived.Test.YtljfdmjlilahjaaFRun
namespace Go.Proofs.Ytljfdmjlilahjaa
open Go.RowKit
set_option linter.unusedVariables false
set_option linter.unusedSimpArgs false
set_option maxRecDepth 4000

theorem upto_mem {s : Fr} {k j x : Nat} : x ∈ upto s k j ↔ ∃ i, i < j ∧ s.ks.getD i 0 = k ∧ x = s.lo + i := by
  unfold upto
  constructor
  · intro h
    obtain ⟨i, hi, rfl⟩ := List.mem_map.1 h
    obtain ⟨h1, h2⟩ := List.mem_filter.1 hi
    exact ⟨i, List.mem_range.1 h1, eq_of_beq h2, rfl⟩
  · rintro ⟨i, h1, h2, rfl⟩
    exact List.mem_map.2 ⟨i, List.mem_filter.2 ⟨List.mem_range.2 h1, by rw [h2]; exact beq_self_eq_true k⟩, rfl⟩

theorem upto_sorted (s : Fr) (k j : Nat) : (upto s k j).Pairwise (· < ·) := by
  unfold upto
  refine List.pairwise_map.2 ?_
  refine List.Pairwise.imp ?_ (List.Pairwise.filter _ List.pairwise_lt_range)
  intro a b h
  show s.lo + a < s.lo + b
  omega

/-- The list of a kind, place by place. -/
structure Listed (s : Fr) (k : Nat) (b : Nat → Nat) (n : Nat) : Prop where
  rise : ∀ i j, i < j → j < n → b i < b j
  lo : ∀ j, j < n → s.lo ≤ b j ∧ b j < s.lo + s.ks.length
  kind : ∀ j, j < n → s.ks.getD (b j - s.lo) 0 = k
  all : ∀ i, i < s.ks.length → s.ks.getD i 0 = k → ∃ j, j < n ∧ b j = s.lo + i

theorem listed (s : Fr) (k : Nat) : Listed s k (fun j => (blocksL s k).getD j 0) (blocksL s k).length := by
  have hs := upto_sorted s k s.ks.length
  have hg : ∀ j (h : j < (blocksL s k).length), (blocksL s k).getD j 0 = (blocksL s k)[j] := fun j h => by
    rw [List.getD_eq_getElem?_getD, List.getElem?_eq_getElem h]; rfl
  have hm : ∀ j, j < (blocksL s k).length → ∃ i, i < s.ks.length ∧ s.ks.getD i 0 = k ∧ (blocksL s k).getD j 0 = s.lo + i := fun j h => by
    rw [hg j h]
    exact upto_mem.1 (List.getElem_mem h)
  refine ⟨fun i j hij hj => ?_, fun j hj => ?_, fun j hj => ?_, fun i hi hk => ?_⟩
  · rw [hg i (by omega), hg j hj]
    exact List.pairwise_iff_getElem.1 hs i j (by unfold blocksL at hj; omega) (by exact hj) hij
  · obtain ⟨i, h1, h2, h3⟩ := hm j hj
    rw [h3]
    omega
  · obtain ⟨i, h1, h2, h3⟩ := hm j hj
    rw [h3, show s.lo + i - s.lo = i from by omega]
    exact h2
  · have : s.lo + i ∈ blocksL s k := upto_mem.2 ⟨i, hi, hk, rfl⟩
    obtain ⟨j, hj, e⟩ := List.mem_iff_getElem.1 this
    exact ⟨j, hj, by rw [hg j hj]; exact e⟩

theorem Listed.far {s : Fr} {k : Nat} {b : Nat → Nat} {n : Nat} (h : Listed s k b n) {i : Nat} : ∀ d, i + d < n → b i + d ≤ b (i + d)
  | 0, _ => Nat.le_refl _
  | d + 1, hd => by
    have h1 := h.far d (i := i) (by omega)
    have h2 := h.rise (i + d) (i + (d + 1)) (by omega) hd
    omega

/-- The place k begins a run of N. -/
def good (b : Nat → Nat) (n N k : Nat) : Prop := k + N ≤ n ∧ b (k + N - 1) = b k + N - 1

theorem good_run {s : Fr} {b : Nat → Nat} {n N k : Nat} (h : Listed s 1 b n) (hN : 1 ≤ N) (hg : good b n N k) : RunAt s.ks N (b k - s.lo) := by
  intro j hj
  obtain ⟨h1, h2⟩ := hg
  have f1 := h.far (i := k) j (by omega)
  have f2 := h.far (i := k + j) (N - 1 - j) (by omega)
  rw [show k + j + (N - 1 - j) = k + N - 1 from by omega] at f2
  have e : b (k + j) = b k + j := by omega
  have h3 := h.kind (k + j) (by omega)
  have h4 := (h.lo k (by omega)).1
  rw [e, show b k + j - s.lo = b k - s.lo + j from by omega] at h3
  exact h3

theorem run_good {s : Fr} {b : Nat → Nat} {n N i : Nat} (h : Listed s 1 b n) (hN : 1 ≤ N) (hr : RunAt s.ks N i) : ∃ k, good b n N k ∧ b k = s.lo + i := by
  have hin := run_in hr hN
  obtain ⟨k, hk, e⟩ := h.all i (by omega) (by have := hr 0 (by omega); simpa using this)
  have step : ∀ j, j < N → k + j < n ∧ b (k + j) = s.lo + i + j := by
    intro j
    induction j with
    | zero => intro _; exact ⟨hk, e⟩
    | succ j ih =>
      intro hj
      obtain ⟨h1, h2⟩ := ih (by omega)
      obtain ⟨m, hm, em⟩ := h.all (i + (j + 1)) (by omega) (hr (j + 1) hj)
      have hlt : k + j < m := by
        rcases Nat.lt_trichotomy (k + j) m with q | q | q
        · exact q
        · subst q; omega
        · have := h.rise m (k + j) q h1; omega
      have h3 := h.rise (k + j) (k + (j + 1)) (by omega) (by omega)
      refine ⟨by omega, ?_⟩
      rcases Nat.lt_or_ge (k + (j + 1)) m with q | q
      · have := h.rise _ _ q hm; omega
      · have : m = k + (j + 1) := by omega
        subst this
        omega
  obtain ⟨h1, h2⟩ := step (N - 1) (by omega)
  exact ⟨k, ⟨by omega, by rw [show k + N - 1 = k + (N - 1) from by omega, h2]; omega⟩, e⟩

theorem first_none {s : Fr} {b : Nat → Nat} {n N : Nat} (h : Listed s 1 b n) (hN : 1 ≤ N) (hg : ∀ k, k < n → ¬ good b n N k) : IsFirst s.ks N none := by
  intro i hr
  obtain ⟨k, h1, _⟩ := run_good h hN hr
  exact hg k (by have := h1.1; omega) h1

theorem first_some {s : Fr} {b : Nat → Nat} {n N k : Nat} (h : Listed s 1 b n) (hN : 1 ≤ N) (hg : good b n N k) (hl : ∀ j, j < k → ¬ good b n N j) : IsFirst s.ks N (some (b k - s.lo)) := by
  refine ⟨good_run h hN hg, fun i hi hr => ?_⟩
  obtain ⟨j, h1, h2⟩ := run_good h hN hr
  have hk := hg.1
  have hj := h1.1
  have hlo := (h.lo k (by omega)).1
  rcases Nat.lt_or_ge j k with q | q
  · exact hl j q h1
  · rcases Nat.lt_or_ge k j with r | r
    · have := h.rise k j r (by omega); omega
    · have : j = k := by omega
      subst this
      omega

theorem upto_count (s : Fr) (k : Nat) : ∀ j, j ≤ s.ks.length → (upto s k j).length = (s.ks.take j).count k := by
  intro j
  induction j with
  | zero => intro _; simp [upto]
  | succ j ih =>
    intro hj
    rw [upto_next, List.length_append, ih (by omega), List.take_add_one, List.count_append, List.getElem?_eq_getElem (by omega)]
    congr 1
    rw [List.getD_eq_getElem?_getD, List.getElem?_eq_getElem (by omega)]
    show (if s.ks[j] = k then [s.lo + j] else []).length = List.count k [s.ks[j]]
    rw [List.count_singleton]
    by_cases h : s.ks[j] = k
    · rw [if_pos h, h]; simp
    · rw [if_neg h, if_neg (by simpa using h)]; rfl

theorem blocks_count (s : Fr) (k : Nat) : (blocksL s k).length = s.ks.count k := by
  unfold blocksL
  rw [upto_count s k _ (Nat.le_refl _), List.take_length]

theorem setRun_get (ks : List Nat) (b : Nat) : ∀ N i, b + N ≤ i → (setRun ks b N)[i]? = ks[i]?
  | 0, i, _ => rfl
  | N + 1, i, h => by
    unfold setRun
    rw [List.getElem?_set_ne (by omega)]
    exact setRun_get ks b N i (by omega)

theorem setRun_count {ks : List Nat} {b : Nat} : ∀ {N}, RunAt ks N b → (setRun ks b N).count 1 + N = ks.count 1
  | 0, _ => rfl
  | N + 1, hr => by
    have ih := setRun_count (N := N) (ks := ks) (b := b) (fun j hj => hr j (by omega))
    have hin := run_in hr (by omega)
    have hg := setRun_get ks b N (b + N) (Nat.le_refl _)
    have h1 := hr N (by omega)
    have hlt : b + N < (setRun ks b N).length := by rw [setRun_len]; omega
    rw [List.getD_eq_getElem?_getD, ← hg, List.getElem?_eq_getElem hlt] at h1
    have h1 : (setRun ks b N)[b + N] = 1 := h1
    have hc : 0 < (setRun ks b N).count 1 := List.count_pos_iff.2 (by rw [← h1]; exact List.getElem_mem hlt)
    unfold setRun
    rw [List.count_set hlt, h1]
    simp
    omega

def runT (N : Nat) : Option Nat → Nat
  | none => 0
  | some _ => N

theorem run_count {s : Fr} {N : Nat} {r : Option Nat} (hr : IsFirst s.ks N r) : (blocksL (runF s N r) 1).length + runT N r = (blocksL s 1).length := by
  cases r with
  | none => rfl
  | some b =>
    rw [blocks_count, blocks_count]
    have := setRun_count hr.1
    exact this

theorem setRun_mem {ks : List Nat} {b : Nat} : ∀ N k, k ∈ setRun ks b N → k ∈ ks ∨ k = 2
  | 0, k, h => .inl h
  | N + 1, k, h => by
    unfold setRun at h
    rcases List.mem_or_eq_of_mem_set h with h1 | h1
    · exact setRun_mem N k h1
    · exact .inr h1

theorem run_ok {s : Fr} (h : FrOk s) (N : Nat) (r : Option Nat) : FrOk (runF s N r) := by
  cases r with
  | none => exact h
  | some b =>
    refine ⟨by show 0 < (setRun s.ks b N).length; rw [setRun_len]; exact h.any, by show s.lo + (setRun s.ks b N).length ≤ 1024; rw [setRun_len]; exact h.most, fun k hk => ?_⟩
    rcases setRun_mem N k hk with h1 | h1
    · exact h.kinds k h1
    · rw [h1]; omega

end Go.Proofs.Ytljfdmjlilahjaa
