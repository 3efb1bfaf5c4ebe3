/- The chapter's examples. -/
import Derived.Test.YtakifnlfgaedjaaVIn
namespace Go.Proofs.Ytakifnlfgaedjaa
open Go.RowKit Go.Sort
set_option linter.unusedVariables false
set_option linter.unusedSimpArgs false
set_option maxRecDepth 4000

set_option maxRecDepth 100000 in
set_option maxHeartbeats 8000000 in
theorem live_any (w : World) : Calls Try.prog 7 #[] w fun e w' => e = .returned (.bool true) ∧ Below w.heap.size w w' := by
  have c1 := new_in w w w.heap.size (Below.refl _ _) (Nat.le_refl _) 7 0
  unfold ptrR at c1
  go_enter Try.func7, Try.ntmps7
  go_wp2_with fail
  refine c1.mono ?_
  rintro f1 w1 ⟨p, rfl, h1, _⟩
  clear c1
  have c2 := open_in h1 (new_ok 7 0)
  rw [e1] at c2
  unfold ptrR at c2
  clear h1
  go_wp2_with fail
  refine c2.mono ?_
  rintro f2 w2 ⟨rfl, h2, _⟩
  clear c2
  have c3 := next_in h2 9 3
  rw [e2, show nextE 3 = 0 from rfl] at c3
  unfold ptrR at c3
  clear h2
  go_wp2_with fail
  refine c3.mono ?_
  rintro f3 w3 ⟨rfl, h3, _⟩
  clear c3
  have c4 := open_in h3 ⟨List.pairwise_singleton _ _, (fun x hx => by simp [s2] at hx; subst hx; exact ⟨by decide, by decide⟩), by decide⟩
  rw [e3] at c4
  unfold ptrR at c4
  clear h3
  go_wp2_with fail
  refine c4.mono ?_
  rintro f4 w4 ⟨rfl, h4, _⟩
  clear c4
  have c5 := kept_in h4 ok3
  unfold ptrR at c5
  clear h4
  go_wp2_with fail
  refine c5.mono ?_
  rintro f5 w5 ⟨g5, cap5, l5, rfl, _, _, q5, r5, _, hh5, hk5, h5, _⟩
  clear c5
  obtain rfl := k3 hk5
  clear hk5
  unfold maxLen at r5
  have x5 : ∀ W, Below w5.heap.size w5 W → W.cell? ⟨g5, 0, none⟩ = some (.int .u32 7) := fun W hW => (hW.cell (p := ⟨g5, 0, none⟩) hh5.lt).trans (by have := hh5.cell 0 (by decide); simpa using this)
  have X5 : Hid (HoldU w5 g5 #[7, 9]) := hh5
  clear x5 hh5
  have c6 := horizon_in h5 ok3
  rw [show (eldT s3).ver = 0 from rfl] at c6
  unfold ptrR at c6
  clear h5
  go_wp2_with fail
  refine c6.mono ?_
  rintro f6 w6 ⟨rfl, h6, hb6⟩
  clear c6
  have X6 : Hid (HoldU w6 g5 #[7, 9]) := X5.out.other (Sole.of_below hb6 []) (by simp)
  have c7 := window_in h6
  rw [show winR s3 = 3 from by simp [winR, s3, wrap64]] at c7
  unfold ptrR at c7
  clear h6 X5 hb6
  go_wp2_with fail
  refine c7.mono ?_
  rintro f7 w7 ⟨rfl, h7, hb7⟩
  clear c7
  have X7 : Hid (HoldU w7 g5 #[7, 9]) := X6.out.other (Sole.of_below hb7 []) (by simp)
  have c8 := settle_in h7 ok3
  rw [e4] at c8
  unfold ptrR at c8
  clear h7 X6 hb7
  go_wp2_with fail
  refine c8.mono ?_
  rintro f8 w8 ⟨rfl, h8, hk8⟩
  clear c8
  have X8 : Hid (HoldU w8 g5 #[7, 9]) := by
    obtain ⟨cur, y1, y2⟩ := X7.out
    exact ⟨cur, hk8 g5 _ y1 (fun cs fr => ⟨by simp, by simp⟩), y2⟩
  have c9 := window_in h8
  rw [show winR s3 = 3 from by simp [winR, s3, wrap64]] at c9
  unfold ptrR at c9
  clear h8 X7 hk8
  go_wp2_with fail
  refine c9.mono ?_
  rintro f9 w9 ⟨rfl, h9, hb9⟩
  clear c9
  have X9 : Hid (HoldU w9 g5 #[7, 9]) := X8.out.other (Sole.of_below hb9 []) (by simp)
  have c10 := close_in h9 ok3 1
  rw [e5, show closeE s3 1 = 0 from rfl] at c10
  unfold ptrR at c10
  clear h9 X8 hb9
  go_wp2_with fail
  refine c10.mono ?_
  rintro f10 w10 ⟨rfl, h10, hk10⟩
  clear c10
  have X10 : Hid (HoldU w10 g5 #[7, 9]) := by
    obtain ⟨cur, y1, y2⟩ := X9.out
    exact ⟨cur, hk10 g5 _ y1 (fun cs fr => ⟨by simp, by simp⟩), y2⟩
  have c11 := settle_in h10 ok5
  rw [e6] at c11
  unfold ptrR at c11
  clear h10 X9 hk10
  go_wp2_with fail
  refine c11.mono ?_
  rintro f11 w11 ⟨rfl, h11, hk11⟩
  clear c11
  have X11 : Hid (HoldU w11 g5 #[7, 9]) := by
    obtain ⟨cur, y1, y2⟩ := X10.out
    exact ⟨cur, hk11 g5 _ y1 (fun cs fr => ⟨by simp, by simp⟩), y2⟩
  have c12 := window_in h11
  rw [show winR s6 = 0 from by simp [winR, s6, wrap64]] at c12
  unfold ptrR at c12
  clear h11 X10 hk11
  go_wp2_with fail
  refine c12.mono ?_
  rintro f12 w12 ⟨rfl, h12, hb12⟩
  clear c12
  have X12 : Hid (HoldU w12 g5 #[7, 9]) := X11.out.other (Sole.of_below hb12 []) (by simp)
  have c13 := kept_in h12 (settle_ok ok5)
  unfold ptrR at c13
  clear h12 X11 hb12
  go_wp2_with fail
  refine c13.mono ?_
  rintro f13 w13 ⟨g13, cap13, l13, rfl, _, _, q13, r13, _, hh13, hk13, h13, hb13⟩
  clear c13
  obtain rfl := k6 hk13
  clear hk13
  unfold maxLen at r13
  have z5 : w13.cell? ⟨g5, 0, none⟩ = some (.int .u32 7) := by
    have := (X12.out.other (Sole.of_below hb13 []) (by simp)).cell 0 (by decide)
    simpa using this
  have z13 : w13.cell? ⟨g13, 0, none⟩ = some (.int .u32 9) := by
    have := hh13.cell 0 (by decide)
    simpa using this
  have hB := h13.bel
  clear X12 hh13 h13 hb13
  go_wp2
  go_ret
  exact ⟨rfl, hB⟩

end Go.Proofs.Ytakifnlfgaedjaa
