/- Proved: the Go law CodecOrder (of two numbers in as many bytes the lesser one's bytes stand ahead) returns true for any two numbers and every width; no condition beside the form's own. -/
import Derived.Test.YtmpddbnggddmdabNumbers
import Derived.Test.YtmpddbnggddmdabOrderMath
import Derived.WalkKit
import Derived.ProofKit
import Derived.ChangeOld
import Derived.Below
import Derived.OpenShut
import Derived.ShutString
namespace Go.Proofs.Ytmpddbnggddmdab.codecOrder
open Go.ChangeShapes Go.WideShapes Go.ChangeAt Go.RowKit
open Go.ChangeMaps (open_string shut_string)
set_option linter.unusedVariables false      -- a walk need not use every 'w<i>' (that an integer argument fits its kind)

theorem own : ownKnob Try.prog.godebug = none := by kernel_rfl

/-! ### The walk -/
theorem walk (a0 : Int) (a1 : Int) (a2 : Int) (w0 : (Lit.int .u64 a0).wf = true) (w1 : (Lit.int .u64 a1).wf = true) (w2 : (Lit.int .i64 a2).wf = true) (w : World) :
    Calls Try.prog 3 #[.int .u64 a0, .int .u64 a1, .int .i64 a2] w fun e w' => e = .returned (.bool true) ∧ Below w.heap.size w w' := by
  obtain ⟨g0, g0'⟩ := bounds_u64 w0
  obtain ⟨g1, g1'⟩ := bounds_u64 w1
  clear w0 w1 w2
  by_cases hE : fixE a0 a2 = 0
  · by_cases hF : fixE a1 a2 = 0
    · have HL : Hid _ := order_less a0 a1 a2 g0 g1 hE hF
      have HE : Hid _ := order_eq a0 a1 a2 g0 g1 hE hF
      go_enter Try.func3, Try.ntmps3
      go_wp2_with fail
      refine (numbers_any _).mono ?_
      rintro e w2 ⟨rfl, hb2⟩
      go_wp2_with fail
      refine (fixed_any _ _ _ g0 (by omega)).mono ?_
      rintro e w3 ⟨v3, rfl, ho3, hb3⟩
      go_wp2_with fail
      refine (fixed_any _ _ _ g1 (by omega)).mono ?_
      rintro e w4 ⟨v4, rfl, ho4, hb4⟩
      rw [hF]
      have hb : Below w.heap.size w w4 := (hb2.trans (hb3.mono hb2.size)).trans (hb4.mono (Nat.le_trans hb2.size hb3.size))
      have hc3 := (ho3.below hb4).rd.conv
      have hc4 := ho4.rd.conv
      generalize strOfNums (fixL a0 a2) = s0 at *
      generalize strOfNums (fixL a1 a2) = s1 at *
      clear ho3 ho4 hb2 hb3 hb4 hE hF
      have h1 := HL.out
      have h2 := HE.out
      clear HL HE
      by_cases hlt : a0 < a1
      · have hq : (a0 == a1) = false := beq_eq_false_iff_ne.2 (by omega)
        rw [decide_eq_true hlt] at h1
        rw [decide_eq_false (by omega)] at h2
        go_wp2
        go_ret
        exact ⟨rfl, hb⟩
      · rw [decide_eq_false hlt] at h1
        have hdd : decide (a0 < a1) = false := decide_eq_false hlt
        by_cases heq : a0 = a1
        · subst heq
          rw [decide_eq_true rfl] at h2
          go_wp2
          go_ret
          exact ⟨by simp, hb⟩
        · have hq : (a0 == a1) = false := beq_eq_false_iff_ne.2 heq
          rw [decide_eq_false heq] at h2
          go_wp2
          go_ret
          exact ⟨rfl, hb⟩
    · have hF' : (fixE a1 a2 != 0) = true := bne_iff_ne.2 hF
      go_enter Try.func3, Try.ntmps3
      go_wp2_with fail
      refine (numbers_any _).mono ?_
      rintro e w2 ⟨rfl, hb2⟩
      go_wp2_with fail
      refine (fixed_any _ _ _ g0 (by omega)).mono ?_
      rintro e w3 ⟨v3, rfl, ho3, hb3⟩
      go_wp2_with fail
      refine (fixed_any _ _ _ g1 (by omega)).mono ?_
      rintro e w4 ⟨v4, rfl, ho4, hb4⟩
      have hb : Below w.heap.size w w4 := (hb2.trans (hb3.mono hb2.size)).trans (hb4.mono (Nat.le_trans hb2.size hb3.size))
      clear ho3 ho4 hb2 hb3 hb4 hE hF
      go_wp2
      go_ret
      exact ⟨rfl, hb⟩
  · have hE' : (fixE a0 a2 != 0) = true := bne_iff_ne.2 hE
    go_enter Try.func3, Try.ntmps3
    go_wp2_with fail
    refine (numbers_any _).mono ?_
    rintro e w2 ⟨rfl, hb2⟩
    go_wp2_with fail
    refine (fixed_any _ _ _ g0 (by omega)).mono ?_
    rintro e w3 ⟨v3, rfl, ho3, hb3⟩
    go_wp2_with fail
    refine (fixed_any _ _ _ g1 (by omega)).mono ?_
    rintro e w4 ⟨v4, rfl, ho4, hb4⟩
    have hb : Below w.heap.size w w4 := (hb2.trans (hb3.mono hb2.size)).trans (hb4.mono (Nat.le_trans hb2.size hb3.size))
    clear ho3 ho4 hb2 hb3 hb4 hE
    go_wp2
    go_ret
    exact ⟨rfl, hb⟩

/-! ### The row -/
set_option maxRecDepth 100000 in
theorem lifted (os : Os) (started : os.Started) (H : Type) (enc : TypeId × Value → H) :
    ReturnsInHanded {} Try.checked os 3 .any (Rows.codecOrderSpec.pre6 enc Try.prog Try.f3 Rows.codecOrderRow.domain false) (Rows.codecOrderSpec.post enc Try.prog Try.f3 false true false false) := by
  refine returnsInHanded_of_change (C := Try.checked) own started (by kernel_rfl) Try.func3
    (ChangeSpec.witness6 (enc := enc) (C := Try.checked) false ⟨#[], #[.int .u64 0, .int .u64 0, .int .i64 0], []⟩ 8 (by kernel_rfl) (by kernel_rfl) (by kernel_rfl) (by kernel_rfl)) ?_
  intro W base args ds gs before hval0 hW hcnd _
  have hval : ∀ (j : Nat) t v, Try.f3.params[j]? = some t → args[j]? = some v → Value.okWide Try.prog W .any base t v := hval0
  have hW' := hW
  obtain ⟨p, q, hA0, hV, rfl, hfz, hnd⟩ := hW
  have hA : DataW.TrodAll enc Try.prog W 0 (fun _ => true) true Try.f3.params.toList args.toList ds p := hA0
  rw [Try.params3] at hA hval
  obtain ⟨v0, vs0, d0, ds0, p0, q0, hargs, rfl, rfl, h0, r0⟩ := trodAll_cons hA
  obtain ⟨v1, vs1, d1, ds1, p1, q1, rfl, rfl, rfl, h1, r1⟩ := trodAll_cons r0
  obtain ⟨v2, vs2, d2, ds2, p2, q2, rfl, rfl, rfl, h2, r2⟩ := trodAll_cons r1
  obtain ⟨rfl, rfl, rfl⟩ := trodAll_nil r2
  obtain rfl : args = #[v0, v1, v2] := by cases args; simp_all
  obtain ⟨rfl, rfl⟩ := trodVars_none hV
  obtain ⟨a0, rfl, rfl, rfl, w0⟩ := open_int Try.underlying22 (hval 0 22 v0 rfl rfl) h0
  obtain ⟨a1, rfl, rfl, rfl, w1⟩ := open_int Try.underlying22 (hval 1 22 v1 rfl rfl) h1
  obtain ⟨a2, rfl, rfl, rfl, w2⟩ := open_int Try.underlying3 (hval 2 3 v2 rfl rfl) h2
  clear hA0 hval0
  refine (walk a0 a1 a2 w0 w1 w2 W).mono fun e W' ⟨he, bel⟩ => ?_
  subst he
  exact ⟨_, rfl, _, _, _, [], _, [], hW', trodAll_mk1 (shut_bool Try.underlying4 _), (trodAll_cons_mk (shut_int Try.underlying22 w0) (trodAll_cons_mk (shut_int Try.underlying22 w1) (trodAll_cons_mk (shut_int Try.underlying3 w2) trodAll_mk0))), rfl, bel.frame _, fun h => by cases h⟩

theorem over : Rows.codecOrderRow.holds Try.pinned (OpenSpec.ofChange Rows.codecOrderSpec) :=
  OpenClaim.holds_of_wide 3 Try.f3 rfl rfl rfl rfl rfl rfl rfl ⟨rfl, rfl, rfl, rfl, rfl⟩ rfl rfl rfl rfl rfl (by kernel_rfl) Try.func3 (by kernel_rfl)
    (of_decide_eq_true (by kernel_rfl)) (by unfold Func.isWrapper; first | (rw [if_pos (by decide +kernel)]; kernel_rfl) | (rw [if_neg (by decide +kernel)]; exact ⟨rfl, rfl⟩))
    (fun os started H enc _ => lifted os started H enc)

end Go.Proofs.Ytmpddbnggddmdab.codecOrder

namespace Go.Proofs.Ytmpddbnggddmdab
/-- The statement. -/
theorem codecOrder_proved : Rows.CodecOrderSaid := codecOrder.over
#print axioms codecOrder_proved
end Go.Proofs.Ytmpddbnggddmdab
