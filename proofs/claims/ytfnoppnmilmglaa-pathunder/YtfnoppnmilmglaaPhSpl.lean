/- The contract of the program's Split. -/
import Derived.Test.YtfnoppnmilmglaaPhCut
namespace Go.Proofs.Ytfnoppnmilmglaa
open Go.RowKit
set_option linter.unusedVariables false
set_option linter.unusedSimpArgs false
set_option maxRecDepth 100000

/-- Whether a text begins with a stroke. -/
def strokeB (s : ByteArray) : Bool := s.data.toList.head? == some 47
theorem stroke_ext (s : ByteArray) (h : 1 ≤ s.size) : ((s.extract 0 1).toList == [47]) = strokeB s := by
  have h0 : 0 < s.size := by omega
  have e := ext1 s 0 h0
  unfold bytesOf at e
  have e2 : (s.extract 0 1).toList = [s[0]'h0] := by rw [ByteArray.toList_eq]; exact e
  have hq := byte_at s 0 h0
  unfold bytesOf at hq
  unfold strokeB
  rw [e2, List.head?_eq_getElem?, hq]
  cases hb : (s[0]'h0 == 47) <;> simp_all

set_option maxHeartbeats 2000000 in
theorem lpre_any (w : World) (s : ByteArray) (hs : s.size ≤ maxLen) : Calls Try.prog 24 #[.string s, .string ⟨#[47]⟩] w fun e w' => e = .returned (.bool (strokeB s)) ∧ w' = w := by
  unfold maxLen at hs
  obtain ⟨B, hB⟩ : ∃ B, strokeB s = B := ⟨_, rfl⟩
  rw [hB]
  by_cases h1 : (s.size : Int) ≥ 1
  · have he := stroke_ext s (by omega)
    rw [hB] at he
    clear hB
    go_enter Try.func24, Try.ntmps24
    go_wp2
    go_ret
    exact ⟨rfl, rfl⟩
  · have hBF : B = false := by
      rw [← hB]
      unfold strokeB
      have : s.data.toList = [] := List.eq_nil_of_length_eq_zero (by rw [← size_list]; omega)
      rw [this]; rfl
    subst hBF
    clear hB
    go_enter Try.func24, Try.ntmps24
    go_wp2
    go_ret
    exact ⟨rfl, rfl⟩
set_option maxHeartbeats 2000000 in
theorem spre_any (w : World) (s : ByteArray) (hs : s.size ≤ maxLen) : Calls Try.prog 18 #[.string s, .string ⟨#[47]⟩] w fun e w' => e = .returned (.bool (strokeB s)) ∧ w' = w := by
  have h := lpre_any w s hs
  go_enter Try.func18, Try.ntmps18
  go_wp2_with fail
  refine h.mono ?_
  rintro e w1 ⟨rfl, rfl⟩
  go_wp2
  go_ret
  exact ⟨rfl, rfl⟩

theorem cut_small : ∀ (l : List UInt8), ∀ n ∈ cutB l, n.length ≤ l.length
  | [], n, h => by simp [cutB] at h; subst h; simp
  | c :: r, n, h => by
    unfold cutB at h
    split at h
    · rcases List.mem_cons.1 h with rfl | h
      · simp
      · have := cut_small r n h; simp; omega
    · cases hq : cutB r with
      | nil => exact absurd hq (cutB_ne r)
      | cons x t =>
        rw [hq] at h
        rcases List.mem_cons.1 h with rfl | h
        · have := cut_small r x (by rw [hq]; simp); simp; omega
        · have := cut_small r n (by rw [hq]; simp [h]); simp; omega

set_option maxHeartbeats 4000000 in
theorem psplit_any (w : World) (s : ByteArray) (hs : s.size ≤ maxLen) : Calls Try.prog 9 #[.string s] w fun e w' => SpOut w w' s e := by
  have hpre := spre_any w s hs
  unfold maxLen at hs
  by_cases h47 : s.toList = [47]
  · have hd : s.data.toList = [47] := by rw [← ByteArray.toList_eq]; exact h47
    have hE : pathE s = 0 := by unfold pathE; rw [if_pos hd]
    have hL : pathL s = [] := by unfold pathL; rw [if_pos hE, if_pos hd]
    have h47' : (s.toList == [47]) = true := by rw [h47]; rfl
    unfold SpOut
    rw [hE, hL]
    clear hpre
    go_enter Try.func9, Try.ntmps9
    go_wp2
    go_ret2
    exact ⟨_, _, _, rfl, FrR.nil _ _, Below.refl _ _⟩
  have hd : s.data.toList ≠ [47] := by rw [← ByteArray.toList_eq]; exact h47
  have h47' : (s.toList == [47]) = false := by rw [beq_eq_false_iff_ne]; exact h47
  have FIN : Hid (∀ W, pathE s ≠ 0 → Below w.heap.size w W → SpOut w W s (.returned (.tuple #[.slice none 0 0, .int .i64 160]))) := fun W h hW => by
    have e1 := (pathE_or s).resolve_left h
    have e2 : pathL s = [] := by unfold pathL; rw [if_neg h]
    exact ⟨_, _, _, by rw [e1], by rw [e2]; exact FrR.nil _ _, hW⟩
  have HEAD : Hid (headOk s = false → pathE s ≠ 0) := fun h => by unfold pathE; rw [if_neg hd, if_neg (by rw [h]; simp)]; decide
  by_cases h64 : (s.size : Int) > 64
  · have hno : pathE s ≠ 0 := HEAD.out (by unfold headOk; rw [decide_eq_false (show ¬ s.size ≤ 64 by omega), Bool.and_false]; rfl)
    clear hpre
    go_enter Try.func9, Try.ntmps9
    go_wp2
    go_ret2
    exact FIN.out _ hno (Below.refl _ _)
  cases hq : strokeB s with
  | false =>
    have hno : pathE s ≠ 0 := HEAD.out (by
      unfold strokeB at hq
      unfold headOk
      rw [hq, Bool.and_false])
    rw [hq] at hpre
    go_enter Try.func9, Try.ntmps9
    go_wp2_with fail
    refine hpre.mono ?_
    rintro e w1 ⟨rfl, rfl⟩
    clear hpre
    go_wp2
    go_ret2
    exact FIN.out _ hno (Below.refl _ _)
  | true =>
    rw [hq] at hpre
    have h1 : 1 ≤ s.size := by
      rcases Nat.eq_zero_or_pos s.size with h | h
      · exfalso
        unfold strokeB at hq
        have : s.data.toList = [] := List.eq_nil_of_length_eq_zero (by rw [← size_list]; omega)
        rw [this] at hq
        cases hq
      · exact h
    have h2 : 2 ≤ s.size := by
      rcases Nat.lt_or_ge s.size 2 with h | h
      · exfalso
        apply hd
        have hl : s.data.toList.length = 1 := by rw [← size_list]; omega
        unfold strokeB at hq
        match hx : s.data.toList, hl with
        | [x], _ =>
          rw [hx] at hq
          simp at hq
          rw [hq]
      · exact h
    have hHead : headOk s = true := by
      unfold headOk
      unfold strokeB at hq
      rw [hq, decide_eq_true h2, decide_eq_true (show s.size ≤ 64 by omega)]
      rfl
    have HPE : Hid (pathE s = if mayB (pathN s) = true then 0 else 160) := by
      rw [← joinE_may]
      unfold pathE joinE
      rw [if_neg hd, if_pos hHead]
      rfl
    have HPL : Hid (pathE s = 0 → pathL s = pathN s) := fun h => by unfold pathL; rw [if_pos h, if_neg hd]
    have hcut := pcut_any w s h1 (by omega)
    clear hHead h1 h2 hd hq HEAD
    go_enter Try.func9, Try.ntmps9
    go_wp2_with fail
    refine hpre.mono ?_
    rintro e w1 ⟨rfl, rfl⟩
    clear hpre
    go_wp2_with fail
    refine hcut.mono ?_
    rintro e w2 ⟨a, n, c, O, rfl, hO, hc, hsz, hb⟩
    clear hcut
    have hON : pathN s = O := by
      unfold pathN
      have : (bytesOf s).drop 1 = s.data.toList.drop 1 := rfl
      rw [← this, ← hc]
      exact map_to O
    have hrd := rdZ_own str_len hO
    have hm := pmay_any a n c O hrd (fun x hx => by have := hsz x hx; unfold maxLen; omega)
    have HF : Hid (FrR w1.heap.size w2 a n c O ∧ Below w1.heap.size w1 w2) := ⟨FrR.of_own (hrd.len.1 ▸ hO), hb⟩
    rw [hON] at HPE HPL
    clear hO hc hsz hb hON hrd
    cases hq : mayB O with
    | true =>
      rw [hq] at hm
      have hE : pathE s = 0 := by rw [HPE.out, if_pos hq]
      have HQ : Hid (pathE s = 0 ∧ pathL s = O) := ⟨hE, HPL.out hE⟩
      clear hE
      go_wp2_with fail
      refine hm.mono ?_
      rintro e w3 ⟨rfl, rfl⟩
      go_wp2
      go_ret2
      exact ⟨a, n, c, by rw [HQ.out.1]; rfl, by rw [HQ.out.2]; exact HF.out.1, HF.out.2⟩
    | false =>
      rw [hq] at hm
      have hE : pathE s ≠ 0 := by rw [HPE.out, if_neg (by rw [hq]; simp)]; decide
      have HQ : Hid (pathE s ≠ 0) := hE
      clear hE
      go_wp2_with fail
      refine hm.mono ?_
      rintro e w3 ⟨rfl, rfl⟩
      go_wp2
      go_ret2
      exact FIN.out _ HQ.out HF.out.2

end Go.Proofs.Ytfnoppnmilmglaa
