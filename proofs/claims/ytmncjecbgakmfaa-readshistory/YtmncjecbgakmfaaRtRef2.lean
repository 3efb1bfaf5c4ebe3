/- The contracts of the document's Meet, and of the law's live. -/
import Derived.Test.YtmncjecbgakmfaaRtRef
namespace Go.Proofs.Ytmncjecbgakmfaa
open Go.RowKit
set_option linter.unusedVariables false
set_option linter.unusedSimpArgs false
set_option maxRecDepth 100000

theorem ckE_yes {t : Tc} (h : mayB t = true) : ckE t = 0 := by unfold ckE; rw [h]; rfl
theorem ckE_no {t : Tc} (h : mayB t = false) : ckE t = 1 := by unfold ckE; rw [h]; rfl

set_option maxHeartbeats 4000000 in
theorem rmeet_any (w : World) (a b : Tc) : Calls Try.prog 13 #[.agg (tcC a), .agg (tcC b)] w fun e w' => e = .returned (.bool (meetB a b)) ∧ Below w.heap.size w w' := by
  have h1 := TwoS.laid w a b
  obtain ⟨w1, hw1⟩ : ∃ w1, (w.alloc (.cells (tcC a) 24)).alloc (.cells (tcC b) 24) = w1 := ⟨_, rfl⟩
  rw [hw1] at h1
  have la1 : Hid _ := h1.a.load
  unfold meetB
  cases ha : mayB a with
  | false =>
    have hm := rck_any w1 a
    rw [ckE_no ha] at hm
    go_enter Try.func13, Try.ntmps13
    go_wp2_with (refine wpList_loadG rfl 24 _ rfl _ rfl _ la1.out ?_)
    refine hm.mono ?_
    rintro e w2 ⟨rfl, hb2⟩
    go_wp2
    go_ret
    exact ⟨rfl, (h1.below hb2).bel⟩
  | true =>
  cases hb : mayB b with
  | false =>
    have hm := rck_any w1 a
    rw [ckE_yes ha] at hm
    go_enter Try.func13, Try.ntmps13
    go_wp2_with (refine wpList_loadG rfl 24 _ rfl _ rfl _ la1.out ?_)
    refine hm.mono ?_
    rintro e w2 ⟨rfl, hb2⟩
    have h2 := h1.below hb2
    have lb2 : Hid _ := h2.b.load
    have hm2 := rck_any w2 b
    rw [ckE_no hb] at hm2
    go_wp2_with (refine wpList_loadG rfl 24 _ rfl _ rfl _ lb2.out ?_)
    refine hm2.mono ?_
    rintro e w3 ⟨rfl, hb3⟩
    go_wp2
    go_ret
    exact ⟨rfl, (h2.below hb3).bel⟩
  | true =>
    have hm := rck_any w1 a
    rw [ckE_yes ha] at hm
    obtain ⟨R, hR⟩ : ∃ R, (true && true && a.ino == b.ino && withinB a b) = R := ⟨_, rfl⟩
    rw [hR]
    have HR : Hid _ := hR
    clear hR
    go_enter Try.func13, Try.ntmps13
    go_wp2_with (refine wpList_loadG rfl 24 _ rfl _ rfl _ la1.out ?_)
    refine hm.mono ?_
    rintro e w2 ⟨rfl, hb2⟩
    have h2 := h1.below hb2
    have lb2 : Hid _ := h2.b.load
    have hm2 := rck_any w2 b
    rw [ckE_yes hb] at hm2
    go_wp2_with (refine wpList_loadG rfl 24 _ rfl _ rfl _ lb2.out ?_)
    refine hm2.mono ?_
    rintro e w3 ⟨rfl, hb3⟩
    have h3 := h2.below hb3
    have a0 := h3.a.c0
    have a1 := h3.a.c1
    have a2 := h3.a.c2
    have a3 := h3.a.c3
    have a4 := h3.a.c4
    have b0 := h3.b.c0
    have b1 := h3.b.c1
    have b2 := h3.b.c2
    have b3 := h3.b.c3
    have b4 := h3.b.c4
    have HB : Hid _ := h3.bel
    clear h3 h2 h1 hb2 hb3 lb2 la1 hm hm2 hw1 ha hb
    obtain ⟨k, i, s, l, h⟩ := a
    obtain ⟨k', i', s', l', h'⟩ := b
    dsimp only at a0 a1 a2 a3 a4 b0 b1 b2 b3 b4 HR
    unfold withinB at HR
    by_cases hi : i = i'
    · subst hi
      by_cases h7 : k' = 7
      · subst h7
        go_wp2
        go_ret
        exact ⟨by rw [← HR.out]; simp, HB.out⟩
      by_cases h6 : k = 6
      · subst h6
        go_wp2
        go_ret
        exact ⟨by rw [← HR.out]; simp [h7], HB.out⟩
      by_cases hk : k = k'
      · subst hk
        by_cases h4 : k = 4
        · subst h4
          by_cases g1 : l < h'
          · go_wp2
            go_ret
            exact ⟨by rw [← HR.out]; simp [g1], HB.out⟩
          · go_wp2
            go_ret
            exact ⟨by rw [← HR.out]; simp; omega, HB.out⟩
        by_cases h5 : k = 5
        · subst h5
          go_wp2
          go_ret
          exact ⟨by rw [← HR.out]; simp, HB.out⟩
        go_wp2
        go_ret
        exact ⟨by rw [← HR.out]; simp [h4, h5, h6, h7], HB.out⟩
      · go_wp2
        go_ret
        exact ⟨by rw [← HR.out]; simp [h6, h7, hk], HB.out⟩
    · go_wp2
      go_ret
      exact ⟨by rw [← HR.out]; simp [hi], HB.out⟩

theorem meet_lit {a b : Tc} {r : Bool} (h : meetB a b = r) (w : World) : Calls Try.prog 12 #[.agg (tcC a), .agg (tcC b)] w fun e w' => e = .returned (.bool r) ∧ Below w.heap.size w w' := by
  rw [← h]; exact meet_any w a b

set_option maxHeartbeats 4000000 in
theorem live_any (w : World) : Calls Try.prog 9 #[] w fun e w' => e = .returned (.bool true) ∧ Below w.heap.size w w' := by
  have v1 : meetB ⟨6, 1, ⟨#[]⟩, 0, 0⟩ ⟨5, 1, ⟨#[98]⟩, 0, 0⟩ = true := by decide +kernel
  have v2 : meetB ⟨5, 1, ⟨#[97]⟩, 0, 0⟩ ⟨5, 1, ⟨#[98]⟩, 0, 0⟩ = false := by decide +kernel
  have v3 : meetB ⟨4, 2, ⟨#[]⟩, 0, 4⟩ ⟨4, 2, ⟨#[]⟩, 3, 9⟩ = true := by decide +kernel
  have v4 : meetB ⟨4, 2, ⟨#[]⟩, 0, 4⟩ ⟨4, 2, ⟨#[]⟩, 4, 9⟩ = false := by decide +kernel
  have v5 : meetB ⟨3, 2, ⟨#[]⟩, 0, 0⟩ ⟨7, 2, ⟨#[]⟩, 0, 0⟩ = true := by decide +kernel
  have v6 : ckE ⟨0, 0, ⟨#[]⟩, 0, 0⟩ = 1 := by decide +kernel
  have q1 := TcAt.laid w ⟨6, 1, ⟨#[]⟩, 0, 0⟩
  have B1 := bel1 w (.cells (tcC ⟨6, 1, ⟨#[]⟩, 0, 0⟩) 24)
  obtain ⟨w1, hw1⟩ : ∃ w1, w.alloc (.cells (tcC ⟨6, 1, ⟨#[]⟩, 0, 0⟩) 24) = w1 := ⟨_, rfl⟩
  have s1 : w1.heap.size = w.heap.size + 1 := by rw [← hw1]; simp
  rw [hw1] at q1 B1
  have q2 := TcAt.laid w1 ⟨5, 1, ⟨#[98]⟩, 0, 0⟩
  have q1 := q1.below (bel1 w1 (.cells (tcC ⟨5, 1, ⟨#[98]⟩, 0, 0⟩) 24))
  have B2 := thenB B1 (bel1 w1 (.cells (tcC ⟨5, 1, ⟨#[98]⟩, 0, 0⟩) 24))
  obtain ⟨w2, hw2⟩ : ∃ w2, w1.alloc (.cells (tcC ⟨5, 1, ⟨#[98]⟩, 0, 0⟩) 24) = w2 := ⟨_, rfl⟩
  have s2 : w2.heap.size = w.heap.size + 1 + 1 := by rw [← hw2]; simp [s1]
  rw [hw2] at q1 q2 B2
  have q3 := TcAt.laid w2 ⟨4, 2, ⟨#[]⟩, 0, 4⟩
  have q1 := q1.below (bel1 w2 (.cells (tcC ⟨4, 2, ⟨#[]⟩, 0, 4⟩) 24))
  have q2 := q2.below (bel1 w2 (.cells (tcC ⟨4, 2, ⟨#[]⟩, 0, 4⟩) 24))
  have B3 := thenB B2 (bel1 w2 (.cells (tcC ⟨4, 2, ⟨#[]⟩, 0, 4⟩) 24))
  obtain ⟨w3, hw3⟩ : ∃ w3, w2.alloc (.cells (tcC ⟨4, 2, ⟨#[]⟩, 0, 4⟩) 24) = w3 := ⟨_, rfl⟩
  have s3 : w3.heap.size = w.heap.size + 1 + 1 + 1 := by rw [← hw3]; simp [s2]
  rw [hw3] at q1 q2 q3 B3
  have q4 := TcAt.laid w3 ⟨4, 2, ⟨#[]⟩, 3, 9⟩
  have q1 := q1.below (bel1 w3 (.cells (tcC ⟨4, 2, ⟨#[]⟩, 3, 9⟩) 24))
  have q2 := q2.below (bel1 w3 (.cells (tcC ⟨4, 2, ⟨#[]⟩, 3, 9⟩) 24))
  have q3 := q3.below (bel1 w3 (.cells (tcC ⟨4, 2, ⟨#[]⟩, 3, 9⟩) 24))
  have B4 := thenB B3 (bel1 w3 (.cells (tcC ⟨4, 2, ⟨#[]⟩, 3, 9⟩) 24))
  obtain ⟨w4, hw4⟩ : ∃ w4, w3.alloc (.cells (tcC ⟨4, 2, ⟨#[]⟩, 3, 9⟩) 24) = w4 := ⟨_, rfl⟩
  have s4 : w4.heap.size = w.heap.size + 1 + 1 + 1 + 1 := by rw [← hw4]; simp [s3]
  rw [hw4] at q1 q2 q3 q4 B4
  have q5 := TcAt.laid w4 ⟨4, 2, ⟨#[]⟩, 4, 9⟩
  have q1 := q1.below (bel1 w4 (.cells (tcC ⟨4, 2, ⟨#[]⟩, 4, 9⟩) 24))
  have q2 := q2.below (bel1 w4 (.cells (tcC ⟨4, 2, ⟨#[]⟩, 4, 9⟩) 24))
  have q3 := q3.below (bel1 w4 (.cells (tcC ⟨4, 2, ⟨#[]⟩, 4, 9⟩) 24))
  have q4 := q4.below (bel1 w4 (.cells (tcC ⟨4, 2, ⟨#[]⟩, 4, 9⟩) 24))
  have B5 := thenB B4 (bel1 w4 (.cells (tcC ⟨4, 2, ⟨#[]⟩, 4, 9⟩) 24))
  obtain ⟨w5, hw5⟩ : ∃ w5, w4.alloc (.cells (tcC ⟨4, 2, ⟨#[]⟩, 4, 9⟩) 24) = w5 := ⟨_, rfl⟩
  rw [hw5] at q1 q2 q3 q4 q5 B5
  rw [s1] at q2
  rw [s2] at q3
  rw [s3] at q4
  rw [s4] at q5
  have l1 : Hid _ := q1.load
  have l2 : Hid _ := q2.load
  have Q2 := q2
  have Q3 := q3
  have Q4 := q4
  have Q5 := q5
  clear B1 B2 B3 B4 s1 s2 s3 s4
  subst hw1 hw2 hw3 hw4
  simp only [tcC] at hw5
  have m1 := meet_lit v1 w5
  go_enter Try.func9, Try.ntmps9
  go_wp2_with (first | (refine wpList_loadG rfl 24 _ rfl _ rfl _ l1.out ?_) | (refine wpList_loadG rfl 24 _ rfl _ rfl _ l2.out ?_))
  refine m1.mono ?_
  rintro e w6 ⟨rfl, b6⟩
  have l2 : Hid _ := (Q2.below b6).load
  go_wp2_with (first | (refine wpList_loadG rfl 24 _ rfl _ rfl _ l2.out ?_))
  refine (meet_lit v2 w6).mono ?_
  rintro e w7 ⟨rfl, b7⟩
  have l3 : Hid _ := ((Q3.below b6).below b7).load
  have l4 : Hid _ := ((Q4.below b6).below b7).load
  go_wp2_with (first | (refine wpList_loadG rfl 24 _ rfl _ rfl _ l3.out ?_) | (refine wpList_loadG rfl 24 _ rfl _ rfl _ l4.out ?_))
  refine (meet_lit v3 w7).mono ?_
  rintro e w8 ⟨rfl, b8⟩
  have l3 : Hid _ := (((Q3.below b6).below b7).below b8).load
  have l5 : Hid _ := (((Q5.below b6).below b7).below b8).load
  go_wp2_with (first | (refine wpList_loadG rfl 24 _ rfl _ rfl _ l3.out ?_) | (refine wpList_loadG rfl 24 _ rfl _ rfl _ l5.out ?_))
  refine (meet_lit v4 w8).mono ?_
  rintro e w9 ⟨rfl, b9⟩
  go_wp2_with fail
  refine (meet_lit v5 w9).mono ?_
  rintro e w10 ⟨rfl, b10⟩
  have hc := check_any w10 ⟨0, 0, ⟨#[]⟩, 0, 0⟩
  rw [v6] at hc
  go_wp2_with fail
  refine hc.mono ?_
  rintro e w11 ⟨rfl, b11⟩
  go_wp2
  go_ret
  exact ⟨rfl, thenB B5 (thenB b6 (thenB b7 (thenB b8 (thenB b9 (thenB b10 b11)))))⟩

end Go.Proofs.Ytmncjecbgakmfaa
