/- Which kid has a key, in plain words; no function of the program. -/
import Derived.Test.YthgdbjpefjjeaaaGreatNodeMath
namespace Go.Proofs.YthgdbjpefjjeaaaGreat
open Go.RowKit
set_option linter.unusedVariables false

theorem less_trans : ∀ a b c : List UInt8, Op.bytesLess a b = true → Op.bytesLess b c = true → Op.bytesLess a c = true
  | _, [], _, h, _ => by simp [Op.bytesLess] at h
  | [], b :: y, [], _, h => by simp [Op.bytesLess] at h
  | [], b :: y, c :: z, _, _ => rfl
  | a :: x, b :: y, [], _, h => by simp [Op.bytesLess] at h
  | a :: x, b :: y, c :: z, h1, h2 => by
    simp only [Op.bytesLess, Bool.or_eq_true, Bool.and_eq_true, decide_eq_true_iff, beq_iff_eq] at h1 h2 ⊢
    rcases h1 with h1 | ⟨rfl, h1⟩
    · rcases h2 with h2 | ⟨rfl, h2⟩
      · exact .inl (UInt8.lt_trans h1 h2)
      · exact .inl h1
    · rcases h2 with h2 | ⟨rfl, h2⟩
      · exact .inl h2
      · exact .inr ⟨rfl, less_trans x y z h1 h2⟩

theorem le_flip : ∀ a b : List UInt8, (Op.bytesLess a b || a == b) = !Op.bytesLess b a
  | [], [] => rfl
  | [], _ :: _ => rfl
  | _ :: _, [] => rfl
  | a :: x, b :: y => by
    have ih := le_flip x y
    simp only [Op.bytesLess]
    by_cases h1 : a < b
    · have h2 : ¬ b < a := fun h => absurd (UInt8.lt_trans h1 h) (UInt8.lt_irrefl _)
      have h3 : (b == a) = false := by rw [beq_eq_false_iff_ne]; intro e; subst e; exact UInt8.lt_irrefl _ h1
      simp [h1, h2, h3]
    · by_cases h2 : b < a
      · have h3 : (a == b) = false := by rw [beq_eq_false_iff_ne]; intro e; subst e; exact UInt8.lt_irrefl _ h2
        have h4 : ((a :: x) == (b :: y)) = false := by rw [beq_eq_false_iff_ne]; intro e; cases e; exact UInt8.lt_irrefl _ h2
        rw [h4]
        simp [h1, h2, h3]
      · have h3 : a = b := UInt8.le_antisymm (UInt8.not_lt.1 h2) (UInt8.not_lt.1 h1)
        subst h3
        have h4 : ((a :: x) == (a :: y)) = (x == y) := by simp
        rw [h4]
        simp only [UInt8.lt_irrefl, decide_false, Bool.false_or, beq_self_eq_true, Bool.true_and]
        exact ih

/-- A key is not above another one: 'x <= k'. -/
def upTo (k x : ByteArray) : Bool := !lessS k x

theorem upTo_down {k x y : ByteArray} (h : lessS x y = true) (hy : upTo k y = true) : upTo k x = true := by
  unfold upTo at hy ⊢
  cases hx : lessS k x with
  | false => rfl
  | true =>
    have : lessS k y = true := less_trans _ _ _ hx h
    rw [this] at hy
    cases hy

/-- How many keys are not above one; of a leaf none. -/
def childN (n : Nd) (k : ByteArray) : Nat := if n.leaf then 0 else n.keys.countP (upTo k)

theorem count_cut (P : ByteArray → Bool) : ∀ l : List ByteArray, (∀ i, i + 1 < l.length → P (l.getD (i + 1) ⟨#[]⟩) = true → P (l.getD i ⟨#[]⟩) = true) →
    (∀ i, i < l.countP P → P (l.getD i ⟨#[]⟩) = true) ∧ (∀ i, l.countP P ≤ i → i < l.length → P (l.getD i ⟨#[]⟩) = false)
  | [], _ => ⟨fun i hi => by simp at hi, fun i _ hi => by simp at hi⟩
  | x :: l, h => by
    have ht : ∀ i, i + 1 < l.length → P (l.getD (i + 1) ⟨#[]⟩) = true → P (l.getD i ⟨#[]⟩) = true := fun i hi hp => by
      have := h (i + 1) (by simp; omega)
      simpa using this (by simpa using hp)
    obtain ⟨h1, h2⟩ := count_cut P l ht
    cases hx : P x with
    | true =>
      rw [List.countP_cons_of_pos hx]
      refine ⟨fun i hi => ?_, fun i hi hl => ?_⟩
      · cases i with
        | zero => exact hx
        | succ i => simpa using h1 i (by omega)
      · cases i with
        | zero => omega
        | succ i => simpa using h2 i (by omega) (by simpa using hl)
    | false =>
      have hnone : ∀ j, j < l.length → P (l.getD j ⟨#[]⟩) = false := by
        intro j
        induction j with
        | zero =>
          intro hj
          cases hq : P (l.getD 0 ⟨#[]⟩) with
          | false => rfl
          | true =>
            have := h 0 (by simp; omega) (by simpa using hq)
            rw [show (x :: l).getD 0 ⟨#[]⟩ = x from rfl, hx] at this
            cases this
        | succ j ih =>
          intro hj
          cases hq : P (l.getD (j + 1) ⟨#[]⟩) with
          | false => rfl
          | true =>
            have := ht j hj hq
            rw [ih (by omega)] at this
            cases this
      have hc : l.countP P = 0 := by
        rw [List.countP_eq_zero]
        intro a ha
        obtain ⟨j, hj, rfl⟩ := List.getElem_of_mem ha
        have := hnone j hj
        rw [List.getD_eq_getElem?_getD, List.getElem?_eq_getElem hj] at this
        simpa using this
      rw [List.countP_cons_of_neg (by rw [hx]; decide), hc]
      refine ⟨fun i hi => by omega, fun i _ hl => ?_⟩
      cases i with
      | zero => exact hx
      | succ i => simpa using hnone i (by simpa using hl)

theorem child_between {n : Nd} (hl : n.leaf = false) (h : risingB n.keys = true) (k : ByteArray) :
    childN n k ≤ n.keys.length ∧ (childN n k = 0 ∨ upTo k (n.keys.getD (childN n k - 1) ⟨#[]⟩) = true) ∧ (childN n k = n.keys.length ∨ lessS k (n.keys.getD (childN n k) ⟨#[]⟩) = true) := by
  have e : childN n k = n.keys.countP (upTo k) := by unfold childN; rw [hl]; rfl
  obtain ⟨h1, h2⟩ := count_cut (upTo k) n.keys (fun i hi hp => upTo_down (rising_less h i hi) hp)
  have hle : n.keys.countP (upTo k) ≤ n.keys.length := List.countP_le_length
  rw [e]
  refine ⟨hle, ?_, ?_⟩
  · rcases Nat.eq_zero_or_pos (n.keys.countP (upTo k)) with h0 | h0
    · exact .inl h0
    · exact .inr (h1 _ (by omega))
  · by_cases h0 : n.keys.countP (upTo k) = n.keys.length
    · exact .inl h0
    · right
      have := h2 _ (Nat.le_refl _) (by omega)
      generalize n.keys.getD (n.keys.countP (upTo k)) ⟨#[]⟩ = x at this
      unfold upTo at this
      simpa using this

/-- One key more. -/
theorem count_take (P : ByteArray → Bool) (l : List ByteArray) (i : Nat) (hi : i < l.length) : (l.take (i + 1)).countP P = (l.take i).countP P + (if P (l.getD i ⟨#[]⟩) then 1 else 0) := by
  rw [List.take_succ_eq_append_getElem hi, List.countP_append, List.getD_eq_getElem?_getD, List.getElem?_eq_getElem hi]
  simp [List.countP_cons]

end Go.Proofs.YthgdbjpefjjeaaaGreat
