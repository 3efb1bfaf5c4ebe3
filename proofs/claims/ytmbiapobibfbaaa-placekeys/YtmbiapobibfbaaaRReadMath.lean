/- What the document's Read makes of fourteen bytes, and what place's does. -/
import Derived.Test.YtmbiapobibfbaaaKeyMath
namespace Go.Proofs.Ytmbiapobibfbaaa
open Go.RowKit
set_option linter.unusedVariables false

/-- The place that the document's Read holds against the key. -/
def refOf (xs : List Int) : Pl :=
  if xs.getD 4 0 = 2 then entP (valB (xs.take 4)) (strOfNums ((xs.drop 5).take (zLen (xs.drop 5)))) else if xs.getD 4 0 = 3 then datP (valB (xs.take 4)) (valB ((xs.drop 5).take 4)) else ⟨valB (xs.take 4), xs.getD 4 0, ⟨#[]⟩, 0⟩

theorem refOf_same (xs : List Int) : plOk (refOf xs) = plOk (plOf xs) ∧ (plOk (refOf xs) = true → refOf xs = plOf xs) := by
  unfold refOf plOf
  by_cases h2 : xs.getD 4 0 = 2
  · rw [if_pos h2, if_neg (by omega), if_pos h2]
    exact ⟨rfl, fun _ => rfl⟩
  · by_cases h3 : xs.getD 4 0 = 3
    · rw [if_neg h2, if_pos h3, if_neg (by omega), if_neg h2, if_pos h3]
      exact ⟨rfl, fun _ => rfl⟩
    · rw [if_neg h2, if_neg h3]
      by_cases h1 : xs.getD 4 0 = 1
      · rw [if_pos h1, h1]
        exact ⟨rfl, fun _ => rfl⟩
      · rw [if_neg h1, if_neg h2, if_neg h3]
        have e1 : plOk ⟨valB (xs.take 4), xs.getD 4 0, ⟨#[]⟩, 0⟩ = false := by
          unfold plOk
          have b1 : (xs.getD 4 0 == 1) = false := by simpa using h1
          have b2 : (xs.getD 4 0 == 2) = false := by simpa using h2
          have b3 : (xs.getD 4 0 == 3) = false := by simpa using h3
          simp only [b1, b2, b3, Bool.false_and, Bool.or_false, Bool.and_false]
        have e2 : plOk pl0 = false := rfl
        rw [e1, e2]
        exact ⟨rfl, fun h => by cases h⟩

theorem rdOk_ref (s : ByteArray) (hs : s.size = 14) : rdOk s = (plOk (refOf (strB s)) && ((keyS (refOf (strB s))).toList == s.toList)) := by
  obtain ⟨e1, e2⟩ := refOf_same (strB s)
  unfold rdOk
  rw [hs, decide_eq_true rfl, Bool.true_and, ← e1]
  cases h : plOk (refOf (strB s))
  · rfl
  · rw [e2 h]

theorem rdP_ref (s : ByteArray) (h : rdOk s = true) (hs : s.size = 14) : rdP s = refOf (strB s) := by
  rw [(rd_yes h).1]
  have h' := h
  rw [rdOk_ref s hs] at h'
  simp only [Bool.and_eq_true] at h'
  exact ((refOf_same (strB s)).2 h'.1).symm

theorem refOf_ok (xs : List Int) (hy : Byt xs) (hl : xs.length = 14) : PlOk (refOf xs) := by
  have h1 := valB_u32 xs hy
  have h2 := valB_u32 (xs.drop 5) (hy.drop 5)
  have h3 : (strOfNums ((xs.drop 5).take (zLen (xs.drop 5)))).size ≤ maxLen := by
    rw [strOfNums_size]; unfold maxLen; simp; omega
  have h0 : (⟨#[]⟩ : ByteArray).size ≤ maxLen := by decide
  have h4 := hy.getD 4
  unfold refOf
  split
  · exact ⟨by simp [entP], h1, by simp [entP], by simp [entP], h3, by simp [entP], by simp [entP]⟩
  · split
    · exact ⟨by simp [datP], h1, by simp [datP], by simp [datP], h0, by simp [datP], h2⟩
    · exact ⟨by simp, h1, by dsimp only; omega, by dsimp only; omega, h0, by simp, by simp⟩

theorem strB_at (s : ByteArray) (i : Nat) (h : i < s.size) : (strB s).getD i 0 = ((s[i]'h).toNat : Int) := by
  unfold strB
  rw [List.getD_eq_getElem?_getD, List.getElem?_map, Array.getElem?_toList, Array.getElem?_eq_getElem h]
  rfl

theorem zLen_at : ∀ (xs : List Int) (e : Nat), e ≤ xs.length → (∀ j, j < e → xs.getD j 0 ≠ 0) → (e = xs.length ∨ xs.getD e 0 = 0) → zLen xs = e
  | [], e, h, _, _ => by
    obtain rfl : e = 0 := by simpa using h
    rfl
  | x :: xs, 0, _, _, h => by
    rcases h with h | h
    · simp at h
    · have : x = 0 := by simpa using h
      unfold zLen
      rw [if_pos this]
  | x :: xs, e + 1, hl, hn, h => by
    have hx : x ≠ 0 := by simpa using hn 0 (by omega)
    have ih := zLen_at xs e (by simpa using hl) (fun j hj => by simpa using hn (j + 1) (by omega)) (by
      rcases h with h | h
      · left; simpa using h
      · right; simpa using h)
    unfold zLen
    rw [if_neg hx, ih]

/-- Where the name ends. -/
theorem zLen_str (s : ByteArray) (hs : s.size = 14) (e : Nat) (h5 : 5 ≤ e) (h14 : e ≤ 14) (hn : ∀ j (hj : j < s.size), 5 ≤ j → j < e → (s[j]'hj).toNat ≠ 0) (h : e = 14 ∨ ∃ hj : e < s.size, (s[e]'hj).toNat = 0) : zLen ((strB s).drop 5) = e - 5 := by
  have hget : ∀ j, ((strB s).drop 5).getD j 0 = (strB s).getD (5 + j) 0 := fun j => by simp [List.getD_eq_getElem?_getD]
  refine zLen_at _ _ (by rw [List.length_drop, strB_length]; omega) (fun j hj => ?_) ?_
  · rw [hget, strB_at s (5 + j) (by omega)]
    have := hn (5 + j) (by omega) (by omega) (by omega)
    omega
  · rcases h with h | ⟨hj, h⟩
    · left; rw [List.length_drop, strB_length]; omega
    · right
      rw [hget, show 5 + (e - 5) = e from by omega, strB_at s e hj, h]
      rfl

theorem extract_str (s : ByteArray) (a b : Nat) (hb : b ≤ s.size) : s.extract a b = strOfNums (((strB s).drop a).take (b - a)) := by
  have h1 : strB (s.extract a b) = ((strB s).drop a).take (b - a) := by
    unfold strB
    rw [ByteArray.data_extract, Array.toList_extract, List.map_take, List.map_drop]
  rw [← h1, strOfNums_strB]

end Go.Proofs.Ytmbiapobibfbaaa
