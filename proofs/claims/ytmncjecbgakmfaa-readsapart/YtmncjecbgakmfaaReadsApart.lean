/- Proved: for every two touches: what may not be, or is of another inode, is not met; a touch that may be meets itself (Names aside), and whatever of an inode was read meets All of it; the chapter's examples hold; no condition. -/
import Derived.Test.YtmncjecbgakmfaaRtRef2
import Derived.Test.YtmncjecbgakmfaaRtArg
import Derived.Deep.RegionHeld3
import Derived.BigQuiet
import Derived.Deep.QuietTactic
import Derived.WalkSmall
import Derived.ProofKit
import Derived.OpenShut
import Derived.ShutString
import Derived.ChangeOld
import Derived.Below
import Derived.Carry
namespace Go.Proofs.Ytmncjecbgakmfaa.readsApart
open Go.ChangeShapes Go.WideShapes Go.ChangeAt Go.RowKit
open Go.ChangeMaps (open_string shut_string)
set_option linter.unusedVariables false
set_option linter.unusedSimpArgs false

theorem own : ownKnob Try.prog.godebug = none := by kernel_rfl
theorem laidOut : laidOutB Try.prog = true := by kernel_rfl

theorem meet_self {a : Tc} (h : mayB a = true) (hk : a.kind ≠ 6) : meetB a a = true := by
  unfold meetB withinB
  rw [h]
  by_cases h7 : a.kind = 7
  · simp [h7]
  · rw [if_neg h7, if_neg hk, if_pos ⟨rfl, h7⟩]
    simp only [mayB, Bool.and_eq_true] at h
    obtain ⟨_, h⟩ := h
    by_cases h4 : a.kind = 4
    · rw [if_pos h4] at h ⊢
      simp only [Bool.and_eq_true, decide_eq_true_eq] at h
      simp [h.2.1.2]
    · rw [if_neg h4]
      by_cases h5 : a.kind = 5
      · rw [if_pos h5]; simp
      · rw [if_neg h5]; simp

set_option maxRecDepth 100000 in
set_option maxHeartbeats 8000000 in
theorem walk (a b : Tc) (w : World) (ha : TcOk a) (hb : TcOk b) :
    Calls Try.prog 7 #[.agg (tcC a), .agg (tcC b)] w fun e w' => e = .returned (.bool true) ∧ Below w.heap.size w w' := by
  have h1 := TwoS.laid w a b
  obtain ⟨w0, hw0⟩ : ∃ w0, (w.alloc (.cells (tcC a) 24)).alloc (.cells (tcC b) 24) = w0 := ⟨_, rfl⟩
  rw [hw0] at h1
  clear ha hb
  go_enter Try.func7, Try.ntmps7
  go_wp2_with fail
  refine (live_any _).mono ?_
  rintro e w1 ⟨rfl, hb1⟩
  have h2 := h1.below hb1
  clear hw0 h1 hb1
  have la2 : Hid _ := h2.a.load
  have hc := check_any w1 a
  cases hma : mayB a with
  | false =>
    rw [ckE_no hma] at hc
    go_wp2_with (refine wpList_loadG rfl 24 _ rfl _ rfl _ la2.out ?_)
    refine hc.mono ?_
    rintro e w2 ⟨rfl, hb2⟩
    have h3 := h2.below hb2
    have la3 : Hid _ := h3.a.load
    have lb3 : Hid _ := h3.b.load
    have hv : meetB a b = false := by unfold meetB; rw [hma]; rfl
    go_wp2_with (first | (refine wpList_loadG rfl 24 _ rfl _ rfl _ la3.out ?_) | (refine wpList_loadG rfl 24 _ rfl _ rfl _ lb3.out ?_))
    refine (meet_lit hv w2).mono ?_
    rintro e w3 ⟨rfl, hb3⟩
    go_wp2
    go_ret
    exact ⟨rfl, (h3.below hb3).bel⟩
  | true =>
    rw [ckE_yes hma] at hc
    go_wp2_with (refine wpList_loadG rfl 24 _ rfl _ rfl _ la2.out ?_)
    refine hc.mono ?_
    rintro e w2 ⟨rfl, hb2⟩
    have h3 := h2.below hb2
    have lb3 : Hid _ := h3.b.load
    have hc2 := check_any w2 b
    clear hc h2 hb2 la2
    cases hmb : mayB b with
    | false =>
      rw [ckE_no hmb] at hc2
      go_wp2_with (refine wpList_loadG rfl 24 _ rfl _ rfl _ lb3.out ?_)
      refine hc2.mono ?_
      rintro e w3 ⟨rfl, hb3⟩
      have h4 := h3.below hb3
      have la4 : Hid _ := h4.a.load
      have lb4 : Hid _ := h4.b.load
      have hv : meetB a b = false := by unfold meetB; rw [hmb]; simp
      go_wp2_with (first | (refine wpList_loadG rfl 24 _ rfl _ rfl _ la4.out ?_) | (refine wpList_loadG rfl 24 _ rfl _ rfl _ lb4.out ?_))
      refine (meet_lit hv w3).mono ?_
      rintro e w4 ⟨rfl, hb4⟩
      go_wp2
      go_ret
      exact ⟨rfl, (h4.below hb4).bel⟩
    | true =>
      rw [ckE_yes hmb] at hc2
      go_wp2_with (refine wpList_loadG rfl 24 _ rfl _ rfl _ lb3.out ?_)
      refine hc2.mono ?_
      rintro e w3 ⟨rfl, hb3⟩
      have h4 := h3.below hb3
      have la4 : Hid _ := h4.a.load
      have lb4 : Hid _ := h4.b.load
      have ia := h4.a.c1
      have ib := h4.b.c1
      have ka := h4.a.c0
      have kb := h4.b.c0
      have heq := fun W => eq_tc W a b
      clear hc2 h3 hb3 lb3
      by_cases hi : a.ino = b.ino
      · have HI : Hid (a.ino = b.ino) := hi
        rw [← hi] at ib
        clear hi
        cases hq : tcEq a b with
        | true =>
          have e := tcEq_iff.1 hq
          rw [hq] at heq
          by_cases h6 : a.kind = 6
          · have hk7 : ¬ b.kind = 7 := by rw [← e, h6]; decide
            have HQ : Hid (a.kind = 6) := h6
            rw [h6] at ka
            clear h6 e hq
            go_wp2_with (first | (refine wpList_loadG rfl 24 _ rfl _ rfl _ la4.out ?_) | (refine wpList_loadG rfl 24 _ rfl _ rfl _ lb4.out ?_))
            go_ret
            exact ⟨rfl, h4.bel⟩
          · have hv : meetB a b = true := by rw [← e]; exact meet_self hma h6
            clear e hq
            go_wp2_with (first | (refine wpList_loadG rfl 24 _ rfl _ rfl _ la4.out ?_) | (refine wpList_loadG rfl 24 _ rfl _ rfl _ lb4.out ?_))
            refine (meet_lit hv w3).mono ?_
            rintro e w4 ⟨rfl, hb4⟩
            go_wp2
            go_ret
            exact ⟨rfl, (h4.below hb4).bel⟩
        | false =>
          rw [hq] at heq
          by_cases h7 : b.kind = 7
          · have hv : meetB a b = true := by unfold meetB withinB; rw [hma, hmb, if_pos h7, HI.out]; simp
            rw [h7] at kb
            clear h7 hq
            go_wp2_with (first | (refine wpList_loadG rfl 24 _ rfl _ rfl _ la4.out ?_) | (refine wpList_loadG rfl 24 _ rfl _ rfl _ lb4.out ?_))
            refine (meet_lit hv w3).mono ?_
            rintro e w4 ⟨rfl, hb4⟩
            go_wp2
            go_ret
            exact ⟨rfl, (h4.below hb4).bel⟩
          · clear hq
            go_wp2_with (first | (refine wpList_loadG rfl 24 _ rfl _ rfl _ la4.out ?_) | (refine wpList_loadG rfl 24 _ rfl _ rfl _ lb4.out ?_))
            go_ret
            exact ⟨rfl, h4.bel⟩
      · have hv : meetB a b = false := by
          unfold meetB
          rw [show (a.ino == b.ino) = false from by rw [beq_eq_false_iff_ne]; exact hi]
          simp
        go_wp2_with (first | (refine wpList_loadG rfl 24 _ rfl _ rfl _ la4.out ?_) | (refine wpList_loadG rfl 24 _ rfl _ rfl _ lb4.out ?_))
        refine (meet_lit hv w3).mono ?_
        rintro e w4 ⟨rfl, hb4⟩
        go_wp2
        go_ret
        exact ⟨rfl, (h4.below hb4).bel⟩

/-! ### The row -/
set_option maxRecDepth 100000 in
theorem lifted (os : Os) (started : os.Started) (H : Type) (enc : TypeId × Value → H) :
    ReturnsInHanded {} Try.checked os 7 .any (Rows.readsApartSpec.pre6 enc Try.prog Try.f7 Rows.readsApartRow.domain false) (Rows.readsApartSpec.post enc Try.prog Try.f7 false true false false) := by
  refine returnsInHanded_of_change (C := Try.checked) own started (by kernel_rfl) Try.func7
    (ChangeSpec.witness6 (enc := enc) (C := Try.checked) false ⟨#[], #[.agg (tcC tc0), .agg (tcC tc0)], []⟩ 8 (by kernel_rfl) (by kernel_rfl) (by kernel_rfl) (by kernel_rfl)) ?_
  intro W base args ds gs before hval0 hW hcnd _
  have hval : ∀ (j : Nat) t v, Try.f7.params[j]? = some t → args[j]? = some v → Value.okWide Try.prog W .any base t v := hval0
  have hW' := hW
  obtain ⟨p, q, hA0, hV, rfl, hfz, hnd⟩ := hW
  have hA : DataW.TrodAll enc Try.prog W 0 (fun _ => true) true Try.f7.params.toList args.toList ds p := hA0
  rw [Try.params7] at hA hval
  obtain ⟨v0, vs0, d0, ds0, p0, q0, hargs, rfl, rfl, h0, r0⟩ := trodAll_cons hA
  obtain ⟨v1, vs1, d1, ds1, p1, q1, rfl, rfl, rfl, h1, r1⟩ := trodAll_cons r0
  obtain ⟨rfl, rfl, rfl⟩ := trodAll_nil r1
  obtain rfl : args = #[v0, v1] := by cases args; simp_all
  obtain ⟨rfl, rfl⟩ := trodVars_none hV
  obtain ⟨cs0, rfl, sz0⟩ := okWide_struct Try.underlying24 (hval 0 24 v0 rfl rfl)
  have k0 := h0
  have lt0 : ∀ x ∈ p0, x.block < W.heap.size := by obtain ⟨m, hm⟩ := k0; exact DataW.trod_lt m _ _ _ hm
  obtain ⟨a0, w0, rfl⟩ : ∃ q : Tc, TcOk q ∧ cs0 = tcC q := by
    obtain ⟨fuel, hf⟩ := h0
    exact touch_of sz0 hf
  obtain ⟨cs1, rfl, sz1⟩ := okWide_struct Try.underlying24 (hval 1 24 v1 rfl rfl)
  have k1 := h1
  have lt1 : ∀ x ∈ p1, x.block < W.heap.size := by obtain ⟨m, hm⟩ := k1; exact DataW.trod_lt m _ _ _ hm
  obtain ⟨a1, w1, rfl⟩ : ∃ q : Tc, TcOk q ∧ cs1 = tcC q := by
    obtain ⟨fuel, hf⟩ := h1
    exact touch_of sz1 hf
  clear hA0 hval0
  refine (walk a0 a1 W w0 w1).mono fun e W' ⟨he, bel⟩ => ?_
  subst he
  exact ⟨_, rfl, _, _, _, [], _, [], hW', trodAll_mk1 (shut_bool Try.underlying4 _), (trodAll_cons_mk (Below.trod laidOut (by kernel_rfl) (of_decide_eq_true (by kernel_rfl)) k0 bel lt0) (trodAll_cons_mk (Below.trod laidOut (by kernel_rfl) (of_decide_eq_true (by kernel_rfl)) k1 bel lt1) trodAll_mk0)), rfl, bel.frame _, fun h => by cases h⟩

theorem over : Rows.readsApartRow.holds Try.pinned (OpenSpec.ofChange Rows.readsApartSpec) :=
  OpenClaim.holds_of_wide 7 Try.f7 rfl rfl rfl rfl rfl rfl rfl ⟨rfl, rfl, rfl, rfl, rfl⟩ rfl rfl rfl rfl rfl (by kernel_rfl) Try.func7 (by kernel_rfl)
    (of_decide_eq_true (by kernel_rfl)) (by unfold Func.isWrapper; first | (rw [if_pos (by decide +kernel)]; kernel_rfl) | (rw [if_neg (by decide +kernel)]; exact ⟨rfl, rfl⟩))
    (fun os started H enc _ => lifted os started H enc)

end Go.Proofs.Ytmncjecbgakmfaa.readsApart

namespace Go.Proofs.Ytmncjecbgakmfaa
/-- The statement. -/
theorem readsApart_proved : Rows.ReadsApartSaid := readsApart.over
#print axioms readsApart_proved
end Go.Proofs.Ytmncjecbgakmfaa
