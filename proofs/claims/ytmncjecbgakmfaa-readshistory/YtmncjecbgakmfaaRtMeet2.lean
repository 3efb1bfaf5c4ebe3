/- The contracts of reads.Meet, and of the document's Check and Meet. -/
import Derived.Test.YtmncjecbgakmfaaRtMeet
namespace Go.Proofs.Ytmncjecbgakmfaa
open Go.RowKit
set_option linter.unusedVariables false
set_option linter.unusedSimpArgs false
set_option maxRecDepth 100000

/-- Two touches in variables of their own. -/
structure TwoS (w W : World) (a b : Tc) : Prop where
  a : TcAt W w.heap.size a
  b : TcAt W (w.heap.size + 1) b
  bel : Below w.heap.size w W
theorem TwoS.laid (w : World) (a b : Tc) : TwoS w ((w.alloc (.cells (tcC a) 24)).alloc (.cells (tcC b) 24)) a b :=
  ⟨(TcAt.laid w a).below (bel1 _ _), by have := TcAt.laid (w.alloc (.cells (tcC a) 24)) b; simpa using this, bel2 _ _ _⟩
theorem TwoS.below {w W W' : World} {a b : Tc} (h : TwoS w W a b) (hb : Below W.heap.size W W') : TwoS w W' a b := ⟨h.a.below hb, h.b.below hb, h.bel.trans (hb.mono h.bel.size)⟩

set_option maxHeartbeats 2000000 in
theorem meet_any (w : World) (a b : Tc) : Calls Try.prog 12 #[.agg (tcC a), .agg (tcC b)] w fun e w' => e = .returned (.bool (meetB a b)) ∧ Below w.heap.size w w' := by
  have h1 := TwoS.laid w a b
  obtain ⟨w1, hw1⟩ : ∃ w1, (w.alloc (.cells (tcC a) 24)).alloc (.cells (tcC b) 24) = w1 := ⟨_, rfl⟩
  rw [hw1] at h1
  have la1 : Hid _ := h1.a.load
  unfold meetB
  cases ha : mayB a with
  | false =>
    have hm := mayBe_any w1 a
    rw [ha] at hm
    go_enter Try.func12, Try.ntmps12
    go_wp2_with (refine wpList_loadG rfl 24 _ rfl _ rfl _ la1.out ?_)
    refine hm.mono ?_
    rintro e w2 ⟨rfl, hb2⟩
    go_wp2
    go_ret
    exact ⟨rfl, (h1.below hb2).bel⟩
  | true =>
  cases hb : mayB b with
  | false =>
    have hm := mayBe_any w1 a
    rw [ha] at hm
    go_enter Try.func12, Try.ntmps12
    go_wp2_with (refine wpList_loadG rfl 24 _ rfl _ rfl _ la1.out ?_)
    refine hm.mono ?_
    rintro e w2 ⟨rfl, hb2⟩
    have h2 := h1.below hb2
    have lb2 : Hid _ := h2.b.load
    have hm2 := mayBe_any w2 b
    rw [hb] at hm2
    go_wp2_with (refine wpList_loadG rfl 24 _ rfl _ rfl _ lb2.out ?_)
    refine hm2.mono ?_
    rintro e w3 ⟨rfl, hb3⟩
    go_wp2
    go_ret
    exact ⟨rfl, (h2.below hb3).bel⟩
  | true =>
    have hm := mayBe_any w1 a
    rw [ha] at hm
    have HP : Hid (progW a b = withinB a b) := progW_eq ha hb
    go_enter Try.func12, Try.ntmps12
    go_wp2_with (refine wpList_loadG rfl 24 _ rfl _ rfl _ la1.out ?_)
    refine hm.mono ?_
    rintro e w2 ⟨rfl, hb2⟩
    have h2 := h1.below hb2
    have lb2 : Hid _ := h2.b.load
    have hm2 := mayBe_any w2 b
    rw [hb] at hm2
    go_wp2_with (refine wpList_loadG rfl 24 _ rfl _ rfl _ lb2.out ?_)
    refine hm2.mono ?_
    rintro e w3 ⟨rfl, hb3⟩
    have h3 := h2.below hb3
    have ca := h3.a.c1
    have cb := h3.b.c1
    have la3 : Hid _ := h3.a.load
    have lb3 : Hid _ := h3.b.load
    by_cases hi : a.ino = b.ino
    · have hi' : (a.ino == b.ino) = true := by rw [beq_iff_eq]; exact hi
      have HI : Hid (a.ino == b.ino) := hi'
      rw [← hi] at cb
      clear hi hi'
      go_wp2_with (first | (refine wpList_loadG rfl 24 _ rfl _ rfl _ la3.out ?_) | (refine wpList_loadG rfl 24 _ rfl _ rfl _ lb3.out ?_))
      refine (within_any w3 a b).mono ?_
      rintro e w4 ⟨rfl, hb4⟩
      go_wp2
      go_ret
      exact ⟨by rw [← HP.out, HI.out]; rfl, (h3.below hb4).bel⟩
    · have hi' : (a.ino == b.ino) = false := by rw [beq_eq_false_iff_ne]; exact hi
      go_wp2
      go_ret
      exact ⟨by rw [hi']; rfl, h3.bel⟩

end Go.Proofs.Ytmncjecbgakmfaa
