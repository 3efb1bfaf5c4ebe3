/- What follows of Encode and Decode: there and back, both ways. -/
import Derived.Test.YtflkbcdeogdodaaILaw
namespace Go.Proofs.Ytflkbcdeogdodaa
open Go.RowKit
set_option linter.unusedVariables false

theorem fixB1 (N : Nat) : fixB N 1 = [((N % 256 : Nat) : Int)] := by simp [fixB, dig]
theorem fixB2 (N : Nat) : fixB N 2 = [((N / 256 % 256 : Nat) : Int), ((N % 256 : Nat) : Int)] := by simp [fixB, dig, List.range_succ]
theorem fixB4 (N : Nat) : fixB N 4 = [((N / 16777216 % 256 : Nat) : Int), ((N / 65536 % 256 : Nat) : Int), ((N / 256 % 256 : Nat) : Int), ((N % 256 : Nat) : Int)] := by simp [fixB, dig, List.range_succ]

theorem fixB_val1 (xs : List Int) (h : Byt xs) (hl : xs.length = 1) : fixB (valB xs) 1 = xs := by
  match xs, hl with
  | [a], _ =>
    have ha := h a (by simp)
    rw [fixB1]
    simp only [valB, List.foldl_cons, List.foldl_nil]
    congr 1
    omega

theorem fixB_val2 (xs : List Int) (h : Byt xs) (hl : xs.length = 2) : fixB (valB xs) 2 = xs := by
  match xs, hl with
  | [a, b], _ =>
    have ha := h a (by simp)
    have hb := h b (by simp)
    rw [fixB2]
    simp only [valB, List.foldl_cons, List.foldl_nil]
    refine List.cons_eq_cons.2 ⟨by omega, List.cons_eq_cons.2 ⟨by omega, rfl⟩⟩

theorem fixB_val4 (xs : List Int) (h : Byt xs) (hl : xs.length = 4) : fixB (valB xs) 4 = xs := by
  match xs, hl with
  | [a, b, c, d], _ =>
    have ha := h a (by simp)
    have hb := h b (by simp)
    have hc := h c (by simp)
    have hd := h d (by simp)
    rw [fixB4]
    simp only [valB, List.foldl_cons, List.foldl_nil]
    refine List.cons_eq_cons.2 ⟨by omega, List.cons_eq_cons.2 ⟨by omega, List.cons_eq_cons.2 ⟨by omega, List.cons_eq_cons.2 ⟨by omega, rfl⟩⟩⟩⟩

theorem recL_byt (k m l s : Int) : Byt (recL k m l s) := (((fixB_byt _ _).append (fixB_byt _ _)).append (fixB_byt _ _)).append (fixB_byt _ _)
theorem recL_length (k m l s : Int) : (recL k m l s).length = 6 := by simp [recL, fixB_length]

theorem wrL_byt {p : Int} {x : It} (h : ItOk x) : Byt (wrL p x) := by
  unfold wrL
  split
  · exact recL_byt _ _ _ _
  · split
    · exact fixB_byt _ _
    · exact h.ch.2

theorem wrL_length {p : Int} {x : It} (h : ItOk x) (hp : wid p ≠ 0) : ((wrL p x).length : Int) = wid p := by
  rcases wid_cases p with ⟨rfl, hw⟩ | ⟨rfl, hw⟩ | ⟨rfl, hw⟩ | ⟨h1, h2, h3, hw⟩
  · rw [hw, wrL_1, recL_length]; rfl
  · rw [hw, wrL_2, fixB_length]; rfl
  · rw [hw, wrL_3 (by decide) (by decide), h.ch.1]; rfl
  · exact absurd hw hp

/-- What was written is read as what it was. -/
theorem rdI_wrL {p : Int} {x : It} (h : ItOk x) (hp : wid p ≠ 0) (hs : standsB p x = true) : rdI p (wrL p x) = giveI p x := by
  rcases wid_cases p with ⟨rfl, hw⟩ | ⟨rfl, hw⟩ | ⟨rfl, hw⟩ | ⟨h1, h2, h3, hw⟩
  · obtain ⟨⟨k0, k1⟩, ⟨m0, m1⟩, ⟨l0, l1⟩, s0, s1⟩ := inoOk_bounds hs
    rw [rdI_1, giveI_1, wrL_1]
    have e : recL x.kind x.mode x.links x.size = fixB x.kind.toNat 1 ++ (fixB x.mode.toNat 2 ++ (fixB x.links.toNat 1 ++ fixB x.size.toNat 2)) := by simp [recL]
    rw [e]
    have a0 := fixB_length x.kind.toNat 1
    have a1 := fixB_length x.mode.toNat 2
    have a2 := fixB_length x.links.toNat 1
    have a3 := fixB_length x.size.toNat 2
    have b0 := valB_fixB x.kind.toNat 1 (by omega)
    have b1 := valB_fixB x.mode.toNat 2 (by omega)
    have b2 := valB_fixB x.links.toNat 1 (by omega)
    have b3 := valB_fixB x.size.toNat 2 (by omega)
    generalize fixB x.kind.toNat 1 = A0 at *
    generalize fixB x.mode.toNat 2 = A1 at *
    generalize fixB x.links.toNat 1 = A2 at *
    generalize fixB x.size.toNat 2 = A3 at *
    match A0, a0, A1, a1, A2, a2, A3, a3 with
    | [u0], _, [u1, u2], _, [u3], _, [u4, u5], _ =>
      have c0 : valB (List.take 1 ([u0] ++ ([u1, u2] ++ ([u3] ++ [u4, u5])))) = x.kind.toNat := b0
      have c1 : valB (List.take 2 (List.drop 1 ([u0] ++ ([u1, u2] ++ ([u3] ++ [u4, u5]))))) = x.mode.toNat := b1
      have c2 : valB (List.take 1 (List.drop 3 ([u0] ++ ([u1, u2] ++ ([u3] ++ [u4, u5]))))) = x.links.toNat := b2
      have c3 : valB (List.take 2 (List.drop 4 ([u0] ++ ([u1, u2] ++ ([u3] ++ [u4, u5]))))) = x.size.toNat := b3
      rw [c0, c1, c2, c3, Int.toNat_of_nonneg (by omega), Int.toNat_of_nonneg (by omega), Int.toNat_of_nonneg (by omega), Int.toNat_of_nonneg (by omega)]
  · rw [rdI_2, giveI_2, wrL_2, valB_fixB _ _ (by have := h.t0; have := h.t1; omega), Int.toNat_of_nonneg h.t0]
  · rw [rdI_3 (by decide) (by decide), giveI_3 (by decide) (by decide), wrL_3 (by decide) (by decide)]
  · exact absurd hw hp

theorem stands_giveI (p : Int) (x : It) : standsB p (giveI p x) = standsB p x := by
  by_cases h1 : p = 1
  · subst h1; rfl
  · by_cases h2 : p = 2
    · subst h2; rfl
    · rw [stands_3 h1 h2, stands_3 h1 h2]

/-- What is read is written as this value. -/
theorem wrL_rdI {p : Int} {xs : List Int} (h : Byt xs) (hl : (xs.length : Int) = wid p) (hp : wid p ≠ 0) : wrL p (rdI p xs) = xs := by
  rcases wid_cases p with ⟨rfl, hw⟩ | ⟨rfl, hw⟩ | ⟨rfl, hw⟩ | ⟨h1, h2, h3, hw⟩
  · rw [wrL_1, rdI_1]
    rw [hw] at hl
    dsimp only
    unfold recL
    rw [Int.toNat_natCast, Int.toNat_natCast, Int.toNat_natCast, Int.toNat_natCast]
    rw [fixB_val1 _ (h.take 1) (by simp; omega), fixB_val2 _ ((h.drop 1).take 2) (by simp; omega), fixB_val1 _ ((h.drop 3).take 1) (by simp; omega), fixB_val2 _ ((h.drop 4).take 2) (by simp; omega)]
    match xs, hl with
    | [a, b, c, d, e, f], _ => rfl
  · rw [wrL_2, rdI_2]
    rw [hw] at hl
    dsimp only
    rw [Int.toNat_natCast, fixB_val4 xs h (by omega)]
  · rw [wrL_3 (by decide) (by decide), rdI_3 (by decide) (by decide)]
  · exact absurd hw hp

theorem back_1 {p : Int} {x : It} (h : ItOk x) (he : encE p x = 0) : decE p (encS p x) = 0 ∧ decI p (encS p x) = x ∧ (encS p x).size ≤ 34 := by
  obtain ⟨hp, ho⟩ := encE_0.1 he
  obtain ⟨hg, hs⟩ := encOk_iff.1 ho
  have e1 : encS p x = strOfNums (wrL p x) := (enc_yes hp ho).2
  have e2 : strB (encS p x) = wrL p x := by rw [e1]; exact strB_strOf (wrL_byt h)
  have e3 : ((encS p x).size : Int) = wid p := by rw [e1, strOfNums_size]; exact wrL_length h hp
  have e4 : rdI p (strB (encS p x)) = x := by rw [e2, rdI_wrL h hp hs, hg]
  have e5 : decOk p (encS p x) = true := by unfold decOk; rw [e4, hs, decide_eq_true e3]; rfl
  obtain ⟨d1, d2⟩ := dec_yes hp e5
  refine ⟨d1, d2.trans e4, ?_⟩
  rcases wid_cases p with ⟨_, hw⟩ | ⟨_, hw⟩ | ⟨_, hw⟩ | ⟨_, _, _, hw⟩ <;> omega

theorem back_2 {p : Int} {s : ByteArray} (hd : decE p s ≠ 0) : decI p s = it0 := by
  unfold decI; rw [if_neg hd]

theorem back_3 {p : Int} {s : ByteArray} (hd : decE p s = 0) : encE p (decI p s) = 0 ∧ encS p (decI p s) = s := by
  have hp : wid p ≠ 0 := fun h => by rw [(dec_arg h s).1] at hd; cases hd
  have ho : decOk p s = true := by
    cases ho : decOk p s with
    | true => rfl
    | false => rw [(dec_no hp ho).1] at hd; cases hd
  rw [(dec_yes hp ho).2]
  unfold decOk at ho
  rw [Bool.and_eq_true, decide_eq_true_iff] at ho
  have hl : ((strB s).length : Int) = wid p := by rw [strB_length]; exact ho.1
  obtain ⟨e1, e2⟩ := enc_yes hp (x := rdI p (strB s)) (encOk_iff.2 ⟨giveI_rdI _ _, ho.2⟩)
  refine ⟨e1, ?_⟩
  rw [e2, wrL_rdI (strB_byt s) hl hp, strOfNums_strB]

end Go.Proofs.Ytflkbcdeogdodaa
