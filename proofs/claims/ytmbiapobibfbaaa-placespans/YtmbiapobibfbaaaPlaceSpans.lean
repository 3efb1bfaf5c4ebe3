/- Proved: PlaceSpans, for every place and every two numbers, with no condition: it answers true. -/
import Derived.Test.YtmbiapobibfbaaaPLive
import Derived.Test.YtmbiapobibfbaaaKeyMath
import Derived.Test.YtmbiapobibfbaaaPArg
import Derived.Deep.RegionHeld3
import Derived.BigQuiet
import Derived.Deep.QuietTactic
import Derived.WalkSmall
import Derived.ProofKit
import Derived.OpenShut
import Derived.ShutString
import Derived.ChangeOld
import Derived.Below
import Derived.Carry
namespace Go.Proofs.Ytmbiapobibfbaaa.placeSpans
open Go.ChangeShapes Go.WideShapes Go.ChangeAt Go.RowKit
open Go.ChangeMaps (open_string shut_string)
set_option linter.unusedVariables false

theorem own : ownKnob Try.prog.godebug = none := by kernel_rfl
theorem laidOut : laidOutB Try.prog = true := by kernel_rfl

set_option maxRecDepth 100000 in
set_option maxHeartbeats 8000000 in
theorem walk (p : Pl) (i k : Int) (w : World) (hp : PlOk p) (hi : (Lit.int .u32 i).wf = true) (hk : (Lit.int .i64 k).wf = true) : Calls Try.prog 6 #[plV p, .int .u32 i, .int .i64 k] w fun e w' => e = .returned (.bool true) ∧ Below w.heap.size w w' := by
  obtain ⟨i0, i1⟩ := bounds_u32 hi
  obtain ⟨k0, k1⟩ := bounds_i64 hk
  clear hi hk
  obtain ⟨w1, hw1⟩ : ∃ w1, w1 = w.alloc (.cells #[.int .u32 p.ino, .int .i64 p.part, .string p.name, .int .u32 p.chunk] 24) := ⟨_, rfl⟩
  have hb1 : Below w.heap.size w w1 := by rw [hw1]; exact (Below.refl _ _).alloc (Nat.le_refl _) _
  have ha1 : PlAt w1 w.heap.size p := by rw [hw1]; exact PlAt.laid w p
  have kya : ∀ W, Calls Try.prog 10 #[.agg #[.int .u32 p.ino, .int .i64 p.part, .string p.name, .int .u32 p.chunk]] W fun e w' => e = .returned (.tuple #[.string (keyS p), .int .i64 (plE p)]) ∧ Below W.heap.size W w' := fun W => key_any W p hp
  have spa : ∀ W, Calls Try.prog 18 #[.int .u32 i, .int .i64 k] W fun e w' => e = .returned (.tuple #[.string (spF i k), .string (spT i k), .int .i64 (spE i k)]) ∧ Below W.heap.size W w' := fun W => span_any W i k i0 i1 k0 k1
  cases oka : plOk p
  · have ea : plE p = 30 := by unfold plE; rw [oka]; rfl
    rw [ea] at kya
    clear ea oka
    unfold plV
    go_enter Try.func6, Try.ntmps6
    go_wp2_with fail
    rw [← hw1]
    clear hw1
    refine (live_any _).mono ?_
    rintro e w2 ⟨rfl, hb2⟩
    have ha2 := ha1.below hb2
    have p0 := ha2.c0
    have p1 := ha2.c1
    have p2 := ha2.c2
    have p3 := ha2.c3
    go_wp2_with fail
    refine (kya _).mono ?_
    rintro e w3 ⟨rfl, hb3⟩
    clear p0 p1 p2 p3
    have ha3 := ha2.below hb3
    go_wp2_with fail
    refine (spa _).mono ?_
    rintro e w4 ⟨rfl, hb4⟩
    have ha4 := ha3.below hb4
    have hb04 : Below w.heap.size w w4 := thenB hb1 (thenB hb2 (thenB hb3 hb4))
    go_wp2
    go_ret
    exact ⟨rfl, hb04⟩
  · have ea : plE p = 0 := by unfold plE; rw [oka]; rfl
    rw [ea] at kya
    cases okb : spOk i k
    · obtain ⟨eb, _, _⟩ := spOk_no okb
      rw [eb] at spa
      clear ea eb oka okb
      unfold plV
      go_enter Try.func6, Try.ntmps6
      go_wp2_with fail
      rw [← hw1]
      clear hw1
      refine (live_any _).mono ?_
      rintro e w2 ⟨rfl, hb2⟩
      have ha2 := ha1.below hb2
      have p0 := ha2.c0
      have p1 := ha2.c1
      have p2 := ha2.c2
      have p3 := ha2.c3
      go_wp2_with fail
      refine (kya _).mono ?_
      rintro e w3 ⟨rfl, hb3⟩
      clear p0 p1 p2 p3
      have ha3 := ha2.below hb3
      go_wp2_with fail
      refine (spa _).mono ?_
      rintro e w4 ⟨rfl, hb4⟩
      have ha4 := ha3.below hb4
      have hb04 : Below w.heap.size w w4 := thenB hb1 (thenB hb2 (thenB hb3 hb4))
      go_wp2
      go_ret
      exact ⟨rfl, hb04⟩
    · obtain ⟨eb, ef, et⟩ := spOk_yes okb
      rw [eb] at spa
      have hkk : 1 ≤ k ∧ k ≤ 3 := by
        unfold spOk at okb
        simp only [Bool.and_eq_true, decide_eq_true_iff] at okb
        exact ⟨okb.1.2, okb.2⟩
      have hbt := between p hp oka i k i0 i1 hkk.1 hkk.2
      have hl1 := less_str (keyP p) (keyL i k []) (keyP_byt p) (keyL_byt _ _ _ Byt.nil)
      have hl2 := less_str (keyP p) (keyL i (k + 1) []) (keyP_byt p) (keyL_byt _ _ _ Byt.nil)
      rw [← keyS_yes oka, ← ef] at hl1
      rw [← keyS_yes oka, ← et] at hl2
      rw [← hl1, ← hl2] at hbt
      clear ea eb oka okb ef et hkk hl1 hl2
      generalize keyS p = ka at *
      generalize spF i k = kf at *
      generalize spT i k = kt at *
      unfold plV
      cases b1 : Op.bytesLess ka.toList kf.toList <;> cases b2 : Op.bytesLess ka.toList kt.toList <;> cases c1 : (p.ino == i) <;> cases c2 : (p.part == k) <;> rw [b1, b2, c1, c2] at hbt <;>
        first
        | (exfalso; revert hbt; decide)
        | (clear hbt
           go_enter Try.func6, Try.ntmps6
           go_wp2_with fail
           rw [← hw1]
           clear hw1
           refine (live_any _).mono ?_
           rintro e w2 ⟨rfl, hb2⟩
           have ha2 := ha1.below hb2
           have p0 := ha2.c0
           have p1 := ha2.c1
           have p2 := ha2.c2
           have p3 := ha2.c3
           go_wp2_with fail
           refine (kya _).mono ?_
           rintro e w3 ⟨rfl, hb3⟩
           clear p0 p1 p2 p3
           have ha3 := ha2.below hb3
           go_wp2_with fail
           refine (spa _).mono ?_
           rintro e w4 ⟨rfl, hb4⟩
           have ha4 := ha3.below hb4
           have hb04 : Below w.heap.size w w4 := thenB hb1 (thenB hb2 (thenB hb3 hb4))
           have p0 := ha4.c0
           have p1 := ha4.c1
           have p2 := ha4.c2
           have p3 := ha4.c3
           go_wp2
           go_ret
           exact ⟨rfl, hb04⟩)

/-! ### The row -/
set_option maxRecDepth 100000 in
theorem lifted (os : Os) (started : os.Started) (H : Type) (enc : TypeId × Value → H) :
    ReturnsInHanded {} Try.checked os 6 .any (Rows.placeSpansSpec.pre6 enc Try.prog Try.f6 Rows.placeSpansRow.domain false) (Rows.placeSpansSpec.post enc Try.prog Try.f6 false true false false) := by
  refine returnsInHanded_of_change (C := Try.checked) own started (by kernel_rfl) Try.func6
    (ChangeSpec.witness6 (enc := enc) (C := Try.checked) false ⟨#[], #[.agg #[.int .u32 0, .int .i64 0, .string ByteArray.empty, .int .u32 0], .int .u32 0, .int .i64 0], []⟩ 8 (by kernel_rfl) (by kernel_rfl) (by kernel_rfl) (by kernel_rfl)) ?_
  intro W base args ds gs before hval0 hW hcnd _
  have hval : ∀ (j : Nat) t v, Try.f6.params[j]? = some t → args[j]? = some v → Value.okWide Try.prog W .any base t v := hval0
  have hW' := hW
  obtain ⟨p, q, hA0, hV, rfl, hfz, hnd⟩ := hW
  have hA : DataW.TrodAll enc Try.prog W 0 (fun _ => true) true Try.f6.params.toList args.toList ds p := hA0
  rw [Try.params6] at hA hval
  obtain ⟨v0, vs0, d0, ds0, p0, q0, hargs, rfl, rfl, h0, r0⟩ := trodAll_cons hA
  obtain ⟨v1, vs1, d1, ds1, p1, q1, rfl, rfl, rfl, h1, r1⟩ := trodAll_cons r0
  obtain ⟨v2, vs2, d2, ds2, p2, q2, rfl, rfl, rfl, h2, r2⟩ := trodAll_cons r1
  obtain ⟨rfl, rfl, rfl⟩ := trodAll_nil r2
  obtain rfl : args = #[v0, v1, v2] := by cases args; simp_all
  obtain ⟨rfl, rfl⟩ := trodVars_none hV
  obtain ⟨cs0, rfl, sz0⟩ := okWide_struct Try.underlying24 (hval 0 24 v0 rfl rfl)
  have k0 := h0
  have lt0 : ∀ x ∈ p0, x.block < W.heap.size := by obtain ⟨m, hm⟩ := k0; exact DataW.trod_lt m _ _ _ hm
  obtain ⟨a0, w0, rfl⟩ : ∃ q : Pl, PlOk q ∧ cs0 = plCells q := by
    obtain ⟨fuel, hf⟩ := h0
    exact place_of sz0 hf
  obtain ⟨a1, rfl, rfl, rfl, w1⟩ := open_int Try.underlying22 (hval 1 22 v1 rfl rfl) h1
  obtain ⟨a2, rfl, rfl, rfl, w2⟩ := open_int Try.underlying3 (hval 2 3 v2 rfl rfl) h2
  clear hA0 hval0
  refine (walk a0 a1 a2 W w0 w1 w2).mono fun e W' ⟨he, bel⟩ => ?_
  subst he
  exact ⟨_, rfl, _, _, _, [], _, [], hW', trodAll_mk1 (shut_bool Try.underlying4 _), (trodAll_cons_mk (Below.trod laidOut (by kernel_rfl) (of_decide_eq_true (by kernel_rfl)) k0 bel lt0) (trodAll_cons_mk (shut_int Try.underlying22 w1) (trodAll_cons_mk (shut_int Try.underlying3 w2) trodAll_mk0))), rfl, bel.frame _, fun h => by cases h⟩

theorem over : Rows.placeSpansRow.holds Try.pinned (OpenSpec.ofChange Rows.placeSpansSpec) :=
  OpenClaim.holds_of_wide 6 Try.f6 rfl rfl rfl rfl rfl rfl rfl ⟨rfl, rfl, rfl, rfl, rfl⟩ rfl rfl rfl rfl rfl (by kernel_rfl) Try.func6 (by kernel_rfl)
    (of_decide_eq_true (by kernel_rfl)) (by unfold Func.isWrapper; first | (rw [if_pos (by decide +kernel)]; kernel_rfl) | (rw [if_neg (by decide +kernel)]; exact ⟨rfl, rfl⟩))
    (fun os started H enc _ => lifted os started H enc)

end Go.Proofs.Ytmbiapobibfbaaa.placeSpans

namespace Go.Proofs.Ytmbiapobibfbaaa
/-- The statement. -/
theorem placeSpans_proved : Rows.PlaceSpansSaid := placeSpans.over
#print axioms placeSpans_proved
end Go.Proofs.Ytmbiapobibfbaaa
