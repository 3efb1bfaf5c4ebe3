/- Proved: the Go law CodecCuts (a number's, a text's bytes without the last one are short) returns true for every number and every text; no condition beside the form's own. -/
import Derived.Test.YtmpddbnggddmdabNumbers
import Derived.Test.YtmpddbnggddmdabTexts
import Derived.Test.YtmpddbnggddmdabTextMath
import Derived.WalkKit
import Derived.ProofKit
import Derived.ChangeOld
import Derived.Below
import Derived.OpenShut
import Derived.ShutString
namespace Go.Proofs.Ytmpddbnggddmdab.codecCuts
open Go.ChangeShapes Go.WideShapes Go.ChangeAt Go.RowKit
open Go.ChangeMaps (open_string shut_string)
set_option linter.unusedVariables false      -- a walk need not use every 'w<i>' (that an integer argument fits its kind)

theorem own : ownKnob Try.prog.godebug = none := by kernel_rfl

/-! ### The walk -/
theorem walk (a0 : Int) (a1 : ByteArray) (w0 : (Lit.int .u64 a0).wf = true) (w1 : a1.size ≤ maxLen) (w : World) :
    Calls Try.prog 4 #[.int .u64 a0, .string a1] w fun e w' => e = .returned (.bool true) ∧ Below w.heap.size w w' := by
  obtain ⟨g0, g0'⟩ := bounds_u64 w0
  clear w0
  have hE : fixE a0 8 = 0 := fixE_eight a0 g0 (by omega)
  have hL : fixL a0 8 = fixB a0.toNat 8 := by unfold fixL; rw [if_pos hE]; rfl
  go_enter Try.func4, Try.ntmps4
  go_wp2_with fail
  refine (numbers_any _).mono ?_
  rintro e w2 ⟨rfl, hb2⟩
  go_wp2_with fail
  refine (texts_any _).mono ?_
  rintro e w3 ⟨rfl, hb3⟩
  go_wp2_with fail
  refine (fixed_any _ _ _ g0 (by omega)).mono ?_
  rintro e w4 ⟨v4, rfl, ho4, hb4⟩
  rw [hE]
  rw [hL] at ho4
  have hl8 := fixB_length a0.toNat 8
  obtain ⟨g, cap, rfl, hc8, hcm⟩ := ho4.open (by omega)
  have hr4 := ho4.rd
  rw [hl8] at hr4 hc8 ⊢
  have hr7 := hr4.cut 7 (by omega)
  have hy7 : Byt ((fixB a0.toNat 8).take 7) := (fixB_byt _ _).take 7
  have hn7 : numE ((fixB a0.toNat 8).take 7) 8 = 10 := by
    unfold numE
    rw [if_neg (by omega), if_pos (by rw [List.length_take, hl8]; decide)]
  have hb04 : Below w.heap.size w w4 := (hb2.trans (hb3.mono hb2.size)).trans (hb4.mono (Nat.le_trans hb2.size hb3.size))
  have hs4 := hb04.size
  unfold maxLen at hcm
  have hc7 : (7 : Int) ≤ cap := by omega
  clear hb2 hb3 hb4 hE hL ho4 hr4 hl8
  go_wp2_with fail
  refine (number_any _ _ _ _ hr7 hy7).mono ?_
  rintro e w5 ⟨rfl, rfl⟩
  rw [hn7]
  clear hr7 hy7 hn7
  go_wp2_with fail
  refine (text_any _ _ w1).mono ?_
  rintro e w6 ⟨v6, rfl, ho6, hb6⟩
  have hb := hb04.trans (hb6.mono hs4)
  by_cases hs : 255 < a1.size
  · have e1 : textE a1 = 2 := if_pos hs
    rw [e1]
    clear e1 ho6 hb6 hb04
    go_wp2
    go_ret
    exact ⟨rfl, hb⟩
  · have e1 : textE a1 = 0 := if_neg hs
    have e2 : textB a1 = (a1.size : Int) :: strB a1 := if_neg hs
    rw [e1]
    rw [e2] at ho6
    have hlt : ((a1.size : Int) :: strB a1).length = a1.size + 1 := by rw [List.length_cons, strB_length]
    obtain ⟨g6, cap6, rfl, hc6, hm6⟩ := ho6.open (by omega)
    have hr6 := ho6.rd
    rw [hlt] at hr6 hc6 ⊢
    have hrs := hr6.cut a1.size (by omega)
    have hys : Byt (((a1.size : Int) :: strB a1).take a1.size) := Byt.take (fun x hx => by
      rcases List.mem_cons.1 hx with rfl | hx
      · omega
      · exact strB_byt a1 x hx) _
    have hE6 : readE (((a1.size : Int) :: strB a1).take a1.size) = 10 := cut_E a1
    have hz6 : ((a1.size : Int) + 1 == 0) = false := beq_eq_false_iff_ne.2 (by omega)
    have hc6' : (a1.size : Int) ≤ cap6 := by omega
    unfold maxLen at hm6
    have hs255 : a1.size ≤ 255 := by omega
    clear e1 e2 ho6 hr6 hlt hb6 hb04
    go_wp2_with fail
    refine (readText_any _ _ _ hrs hys).mono ?_
    rintro e w7 ⟨rfl, rfl⟩
    rw [hE6]
    clear hrs hys hE6
    go_wp2
    go_ret
    exact ⟨rfl, hb⟩

/-! ### The row -/
set_option maxRecDepth 100000 in
theorem lifted (os : Os) (started : os.Started) (H : Type) (enc : TypeId × Value → H) :
    ReturnsInHanded {} Try.checked os 4 .any (Rows.codecCutsSpec.pre6 enc Try.prog Try.f4 Rows.codecCutsRow.domain false) (Rows.codecCutsSpec.post enc Try.prog Try.f4 false true false false) := by
  refine returnsInHanded_of_change (C := Try.checked) own started (by kernel_rfl) Try.func4
    (ChangeSpec.witness6 (enc := enc) (C := Try.checked) false ⟨#[], #[.int .u64 0, .string ByteArray.empty], []⟩ 8 (by kernel_rfl) (by kernel_rfl) (by kernel_rfl) (by kernel_rfl)) ?_
  intro W base args ds gs before hval0 hW hcnd _
  have hval : ∀ (j : Nat) t v, Try.f4.params[j]? = some t → args[j]? = some v → Value.okWide Try.prog W .any base t v := hval0
  have hW' := hW
  obtain ⟨p, q, hA0, hV, rfl, hfz, hnd⟩ := hW
  have hA : DataW.TrodAll enc Try.prog W 0 (fun _ => true) true Try.f4.params.toList args.toList ds p := hA0
  rw [Try.params4] at hA hval
  obtain ⟨v0, vs0, d0, ds0, p0, q0, hargs, rfl, rfl, h0, r0⟩ := trodAll_cons hA
  obtain ⟨v1, vs1, d1, ds1, p1, q1, rfl, rfl, rfl, h1, r1⟩ := trodAll_cons r0
  obtain ⟨rfl, rfl, rfl⟩ := trodAll_nil r1
  obtain rfl : args = #[v0, v1] := by cases args; simp_all
  obtain ⟨rfl, rfl⟩ := trodVars_none hV
  obtain ⟨a0, rfl, rfl, rfl, w0⟩ := open_int Try.underlying22 (hval 0 22 v0 rfl rfl) h0
  obtain ⟨a1, rfl, rfl, rfl, w1⟩ := open_string Try.underlying9 (hval 1 9 v1 rfl rfl) h1
  clear hA0 hval0
  refine (walk a0 a1 w0 w1 W).mono fun e W' ⟨he, bel⟩ => ?_
  subst he
  exact ⟨_, rfl, _, _, _, [], _, [], hW', trodAll_mk1 (shut_bool Try.underlying4 _), (trodAll_cons_mk (shut_int Try.underlying22 w0) (trodAll_cons_mk (shut_string Try.underlying9 w1) trodAll_mk0)), rfl, bel.frame _, fun h => by cases h⟩

theorem over : Rows.codecCutsRow.holds Try.pinned (OpenSpec.ofChange Rows.codecCutsSpec) :=
  OpenClaim.holds_of_wide 4 Try.f4 rfl rfl rfl rfl rfl rfl rfl ⟨rfl, rfl, rfl, rfl, rfl⟩ rfl rfl rfl rfl rfl (by kernel_rfl) Try.func4 (by kernel_rfl)
    (of_decide_eq_true (by kernel_rfl)) (by unfold Func.isWrapper; first | (rw [if_pos (by decide +kernel)]; kernel_rfl) | (rw [if_neg (by decide +kernel)]; exact ⟨rfl, rfl⟩))
    (fun os started H enc _ => lifted os started H enc)

end Go.Proofs.Ytmpddbnggddmdab.codecCuts

namespace Go.Proofs.Ytmpddbnggddmdab
/-- The statement. -/
theorem codecCuts_proved : Rows.CodecCutsSaid := codecCuts.over
#print axioms codecCuts_proved
end Go.Proofs.Ytmpddbnggddmdab
