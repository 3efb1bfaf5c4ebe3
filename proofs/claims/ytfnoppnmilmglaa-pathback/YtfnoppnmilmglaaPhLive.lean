/- The laws' examples. -/
import Derived.Test.YtfnoppnmilmglaaPhProg
namespace Go.Proofs.Ytfnoppnmilmglaa
open Go.RowKit
set_option linter.unusedVariables false
set_option linter.unusedSimpArgs false
set_option maxRecDepth 100000

theorem nm_ok (s : ByteArray) : nameOk s = (decide (1 ≤ s.size) && decide (s.size ≤ 8) && !(s.data.toList == [46]) && !(s.data.toList == [46, 46]) && !(s.data.toList.contains 0) && !(s.data.toList.contains 47)) := by
  unfold nameOk
  rw [ByteArray.toList_eq]
theorem ok_a : nameOk ⟨#[97]⟩ = true := by rw [nm_ok]; decide
theorem ok_b : nameOk ⟨#[98]⟩ = true := by rw [nm_ok]; decide
theorem no_e : nameOk ⟨#[]⟩ = false := by rw [nm_ok]; decide
theorem cut1 : pathN ⟨#[47, 97, 47, 98]⟩ = [⟨#[97]⟩, ⟨#[98]⟩] := rfl
theorem cut3 : pathN ⟨#[47, 97, 47]⟩ = [⟨#[97]⟩, ⟨#[]⟩] := rfl
theorem cut4 : pathN ⟨#[47, 47]⟩ = [⟨#[]⟩, ⟨#[]⟩] := rfl
theorem lit1 : pathE ⟨#[47, 97, 47, 98]⟩ = 0 := by
  unfold pathE
  rw [if_neg (by decide), if_pos (by decide), cut1, if_pos (by decide), if_pos (by simp [ok_a, ok_b])]
theorem lit1L : pathL ⟨#[47, 97, 47, 98]⟩ = [⟨#[97]⟩, ⟨#[98]⟩] := by
  unfold pathL; rw [if_pos lit1, if_neg (by decide), cut1]
theorem lit2 : pathE ⟨#[47]⟩ = 0 := by unfold pathE; rw [if_pos (by decide)]
theorem lit2L : pathL ⟨#[47]⟩ = [] := by unfold pathL; rw [if_pos lit2, if_pos (by decide)]
theorem lit3 : pathE ⟨#[47, 97, 47]⟩ = 160 := by
  unfold pathE
  rw [if_neg (by decide), if_pos (by decide), cut3, if_pos (by decide), if_neg (by simp [no_e])]
theorem lit4 : pathE ⟨#[47, 47]⟩ = 160 := by
  unfold pathE
  rw [if_neg (by decide), if_pos (by decide), cut4, if_pos (by decide), if_neg (by simp [no_e])]
theorem lit5 : parE ⟨#[47, 97, 47, 98]⟩ = 0 := by unfold parE; rw [if_pos ⟨lit1, by rw [lit1L]; simp⟩]
theorem lit5L : parL ⟨#[47, 97, 47, 98]⟩ = [⟨#[97]⟩] := by unfold parL; rw [if_pos lit5, lit1L]; rfl
theorem lit5N : parN ⟨#[47, 97, 47, 98]⟩ = ⟨#[98]⟩ := by unfold parN; rw [if_pos lit5, lit1L]; rfl
theorem s_rd2 {w : World} {q : Nat} {y z : ByteArray} (h : w.heap[q]? = some (.cells #[.string y, .string z] 9 (0, 0))) : RdZ 1 strE w (.slice (some ⟨q, 0, none⟩) 2 2) [y, z] := by
  refine ⟨⟨_, 2, rfl, Nat.le_refl _, by unfold maxLen; decide, fun _ => ⟨q, 0, rfl, (Array.getElem?_eq_some_iff.1 h).1, fun i x j u hi hj => ?_⟩⟩, fun c hc => by cases hc⟩
  have hj0 : j = 0 := by have := (List.getElem?_eq_some_iff.1 hj).1; simp [strE] at this; omega
  subst hj0
  rw [cell_of_row _ _ _ _ _ (0, 0) h]
  have hi2 := (List.getElem?_eq_some_iff.1 hi).1
  simp at hi2
  match i, hi2, hi with
  | 0, _, hi => simp at hi; subst hi; simpa [strE] using hj
  | 1, _, hi => simp at hi; subst hi; simpa [strE] using hj
theorem und_t : underB [⟨#[97]⟩] [⟨#[97]⟩, ⟨#[98]⟩] = true := by unfold underB; rw [Bool.and_eq_true, sameP_iff]; exact ⟨by decide, by simp⟩
theorem und_f : underB [⟨#[97]⟩] [⟨#[97]⟩] = false := under_self _

theorem rows12 (w : World) (x y z : ByteArray) : RdZ 1 strE ((w.alloc (.cells #[.string x] 9)).alloc (.cells #[.string y, .string z] 9)) (.slice (some ⟨w.heap.size, 0, none⟩) 1 1) [x] ∧ RdZ 1 strE ((w.alloc (.cells #[.string x] 9)).alloc (.cells #[.string y, .string z] 9)) (.slice (some ⟨w.heap.size + 1, 0, none⟩) 2 2) [y, z] ∧ Below w.heap.size w ((w.alloc (.cells #[.string x] 9)).alloc (.cells #[.string y, .string z] 9)) := by
  have e : (w.alloc (.cells #[.string x] 9)).heap.size = w.heap.size + 1 := by simp
  refine ⟨RdZ.below (s_rd (heap_alloc_new w _)) (bel1 _ _), ?_, thenB (bel1 _ _) (bel1 _ _)⟩
  rw [← e]
  exact s_rd2 (heap_alloc_new _ _)
theorem rows11 (w : World) (x y : ByteArray) : RdZ 1 strE ((w.alloc (.cells #[.string x] 9)).alloc (.cells #[.string y] 9)) (.slice (some ⟨w.heap.size, 0, none⟩) 1 1) [x] ∧ RdZ 1 strE ((w.alloc (.cells #[.string x] 9)).alloc (.cells #[.string y] 9)) (.slice (some ⟨w.heap.size + 1, 0, none⟩) 1 1) [y] ∧ Below w.heap.size w ((w.alloc (.cells #[.string x] 9)).alloc (.cells #[.string y] 9)) := by
  have e : (w.alloc (.cells #[.string x] 9)).heap.size = w.heap.size + 1 := by simp
  refine ⟨RdZ.below (s_rd (heap_alloc_new w _)) (bel1 _ _), ?_, thenB (bel1 _ _) (bel1 _ _)⟩
  rw [← e]
  exact s_rd (heap_alloc_new _ _)

set_option maxHeartbeats 4000000 in
theorem live_any (w : World) : Calls Try.prog 8 #[] w fun e w' => e = .returned (.bool true) ∧ Below w.heap.size w w' := by
  have m1 : (⟨#[47, 97, 47, 98]⟩ : ByteArray).size ≤ maxLen := by unfold maxLen; decide
  have m2 : (⟨#[47]⟩ : ByteArray).size ≤ maxLen := by unfold maxLen; decide
  have m3 : (⟨#[47, 97, 47]⟩ : ByteArray).size ≤ maxLen := by unfold maxLen; decide
  have m4 : (⟨#[47, 47]⟩ : ByteArray).size ≤ maxLen := by unfold maxLen; decide
  have M1 : Hid _ := m1
  have M2 : Hid _ := m2
  have M3 : Hid _ := m3
  have M4 : Hid _ := m4
  clear m1 m2 m3 m4
  go_enter Try.func8, Try.ntmps8
  go_wp2_with fail
  refine (psplit_any w _ M1.out).mono ?_
  rintro e w1 ⟨a1, n1, c1, rfl, hf1, hb1⟩
  rw [lit1]
  rw [lit1L] at hf1
  have F1 : Hid _ := hf1
  have B1 : Hid _ := hb1
  obtain rfl : 2 = n1 := hf1.1.len.1
  clear hf1 hb1
  go_wp2_with fail
  refine (psplit_any w1 _ M2.out).mono ?_
  rintro e w2 ⟨a2, n2, c2, rfl, hf2, hb2⟩
  rw [lit2]
  rw [lit2L] at hf2
  obtain rfl : 0 = n2 := hf2.1.len.1
  have B2 : Hid _ := thenB B1.out hb2
  have G2 : Hid _ := FrR.below F1.out hb2
  clear hf2 hb2
  go_wp2_with fail
  refine (psplit_any w2 _ M3.out).mono ?_
  rintro e w3 ⟨a3, n3, c3, rfl, hf3, hb3⟩
  rw [lit3]
  have B3 : Hid _ := thenB B2.out hb3
  have G3 : Hid _ := FrR.below G2.out hb3
  clear hf3 hb3
  go_wp2_with fail
  refine (psplit_any w3 _ M4.out).mono ?_
  rintro e w4 ⟨a4, n4, c4, rfl, hf4, hb4⟩
  rw [lit4]
  have B4 : Hid _ := thenB B3.out hb4
  have G4 : Hid _ := FrR.below G3.out hb4
  clear hf4 hb4
  go_wp2_with fail
  refine (pparent_any w4 _ M1.out).mono ?_
  rintro e w5 ⟨a5, n5, c5, rfl, hf5, hb5⟩
  rw [lit5, lit5N]
  rw [lit5L] at hf5
  obtain rfl : 1 = n5 := hf5.1.len.1
  have B5 : Hid _ := thenB B4.out hb5
  have G5 := FrR.below G4.out hb5
  obtain ⟨b0, o0, rfl, d0⟩ := s_cell G5.1 (i := 1) rfl
  have q1 : ((⟨#[98]⟩ : ByteArray).toList == (⟨#[98]⟩ : ByteArray).toList) = true := by simp
  have q2 : ((⟨#[98]⟩ : ByteArray).toList == [98]) = true := by rw [ByteArray.toList_eq]; rfl
  clear hf5 hb5 G5
  have R5 : Hid _ := rows12 w5 ⟨#[97]⟩ ⟨#[97]⟩ ⟨#[98]⟩
  go_wp2_with fail
  refine (punder_any _ _ _ _ R5.out.1 _ _ _ _ R5.out.2.1 (by decide)).mono ?_
  rintro e w6 ⟨rfl, hb6⟩
  rw [und_t]
  have B6 : Hid _ := thenB (thenB B5.out R5.out.2.2) hb6
  have R6 : Hid _ := rows11 w6 ⟨#[97]⟩ ⟨#[97]⟩
  clear R5 hb6
  go_wp2_with fail
  refine (punder_any _ _ _ _ R6.out.1 _ _ _ _ R6.out.2.1 (by decide)).mono ?_
  rintro e w7 ⟨rfl, hb7⟩
  rw [und_f]
  have B7 : Hid _ := thenB (thenB B6.out R6.out.2.2) hb7
  clear R6 hb7
  go_wp2
  go_ret
  exact ⟨rfl, B7.out⟩

end Go.Proofs.Ytfnoppnmilmglaa
