/- Proved: for every two lists of texts the program's Join and Under tell what the document's tell; no condition. -/
import Derived.Test.YtfnoppnmilmglaaPhLive
import Derived.Test.YtfnoppnmilmglaaPhArg
import Derived.Deep.RegionHeld3
import Derived.BigQuiet
import Derived.Deep.QuietTactic
import Derived.WalkSmall
import Derived.ProofKit
import Derived.OpenShut
import Derived.ShutString
import Derived.ChangeOld
import Derived.Below
import Derived.Carry
import Derived.Deep.CutRange
import Derived.Deep.CutBlock
import Derived.Deep.LoopGhost
namespace Go.Proofs.Ytfnoppnmilmglaa.pathJoins
open Go.ChangeShapes Go.WideShapes Go.ChangeAt Go.RowKit
open Go.ChangeMaps (open_string shut_string)
set_option linter.unusedVariables false
set_option linter.unusedSimpArgs false

theorem own : ownKnob Try.prog.godebug = none := by kernel_rfl
theorem laidOut : laidOutB Try.prog = true := by kernel_rfl

set_option maxRecDepth 100000 in
set_option maxHeartbeats 8000000 in
theorem walk (a : Option Addr) (n c : Nat) (l : List ByteArray) (b : Option Addr) (m d : Nat) (r : List ByteArray) (w : World) (hl : RdS w a n c l) (hn : n ≤ 17592186043904) (hr : RdS w b m d r) (hm : m ≤ 17592186043904) :
    Calls Try.prog 4 #[.slice a n c, .slice b m d] w fun e w' => e = .returned (.bool true) ∧ Below w.heap.size w w' := by
  have HL : Hid (RdS w a n c l ∧ RdS w b m d r) := ⟨hl, hr⟩
  clear hl hr
  go_enter Try.func4, Try.ntmps4
  go_wp2_with fail
  refine (live_any _).mono ?_
  rintro e w1 ⟨rfl, hb1⟩
  have B1 : Hid (Below w.heap.size w w1) := hb1
  clear hb1
  by_cases hbig : (n : Int) + (m : Int) > 1000
  · go_wp2
    go_ret
    exact ⟨rfl, B1.out⟩
  have hn' : n ≤ 1000000 := by omega
  have L1 : Hid (RdS w1 a n c l ∧ RdS w1 b m d r) := ⟨HL.out.1.below B1.out, HL.out.2.below B1.out⟩
  have c1 := pjoin_any a n c l L1.out.1.1 L1.out.1.2
  have c2 := fun (W : World) (h : RdS W a n c l) => rjoin_any a n c l h.1 h.2
  obtain ⟨S, hS⟩ : ∃ S, joinS l = S := ⟨_, rfl⟩
  obtain ⟨E, hE⟩ : ∃ E, joinE l = E := ⟨_, rfl⟩
  rw [hS, hE] at c1
  simp only [hS, hE] at c2
  clear hS hE
  go_wp2_with fail
  refine c1.mono ?_
  rintro e w2 ⟨rfl, hb2⟩
  have B2 : Hid (Below w.heap.size w w2) := thenB B1.out hb2
  have L2 : Hid (RdS w2 a n c l ∧ RdS w2 b m d r) := ⟨L1.out.1.below hb2, L1.out.2.below hb2⟩
  have c3 := c2 w2 L2.out.1
  clear hb2 c1 c2 L1 B1
  go_wp2_with fail
  refine c3.mono ?_
  rintro e w3 ⟨rfl, rfl⟩
  clear c3
  have c4 := punder_any a n c l L2.out.1.1 b m d r L2.out.2.1 hn'
  have c5 := fun (W : World) (h : RdS W a n c l ∧ RdS W b m d r) => runder_any a n c l h.1.1 b m d r h.2.1 hn'
  obtain ⟨U, hU⟩ : ∃ U, underB l r = U := ⟨_, rfl⟩
  rw [hU] at c4
  simp only [hU] at c5
  clear hU
  go_wp2_with fail
  refine c4.mono ?_
  rintro e w4 ⟨rfl, hb4⟩
  have B4 : Hid (Below w.heap.size w w4) := thenB B2.out hb4
  have c6 := c5 w4 ⟨L2.out.1.below hb4, L2.out.2.below hb4⟩
  clear hb4 c4 c5
  go_wp2_with fail
  refine c6.mono ?_
  rintro e w5 ⟨rfl, hb5⟩
  have B5 : Hid (Below w.heap.size w w5) := thenB B4.out hb5
  clear hb5 c6
  go_wp2
  go_ret
  exact ⟨rfl, B5.out⟩

/-! ### The row -/
set_option maxRecDepth 100000 in
theorem lifted (os : Os) (started : os.Started) (H : Type) (enc : TypeId × Value → H) :
    ReturnsInHanded {} Try.checked os 4 .any (Rows.pathJoinsSpec.pre6 enc Try.prog Try.f4 Rows.pathJoinsRow.domain false) (Rows.pathJoinsSpec.post enc Try.prog Try.f4 false true false false) := by
  refine returnsInHanded_of_change_sized (C := Try.checked) own started (by kernel_rfl) Try.func4
    (ChangeSpec.witness6 (enc := enc) (C := Try.checked) false ⟨#[], #[.slice none 0 0, .slice none 0 0], []⟩ 8 (by kernel_rfl) (by kernel_rfl) (by kernel_rfl) (by kernel_rfl)) ?_
  intro W base args ds gs before hval0 hW hcnd hsz0 _
  have hsz : (DataW.weightsEach Try.prog (Try.f4.params.toList ++ Rows.pathJoinsSpec.plain.varTypes Try.prog) (ds ++ gs)).all (· ≤ reachBytes) = true := hsz0
  clear hsz0
  have hval : ∀ (j : Nat) t v, Try.f4.params[j]? = some t → args[j]? = some v → Value.okWide Try.prog W .any base t v := hval0
  have hW' := hW
  obtain ⟨p, q, hA0, hV, rfl, hfz, hnd⟩ := hW
  have hA : DataW.TrodAll enc Try.prog W 0 (fun _ => true) true Try.f4.params.toList args.toList ds p := hA0
  rw [Try.params4] at hA hval hsz
  obtain ⟨v0, vs0, d0, ds0, p0, q0, hargs, rfl, rfl, h0, r0⟩ := trodAll_cons hA
  obtain ⟨v1, vs1, d1, ds1, p1, q1, rfl, rfl, rfl, h1, r1⟩ := trodAll_cons r0
  obtain ⟨rfl, rfl, rfl⟩ := trodAll_nil r1
  obtain rfl : args = #[v0, v1] := by cases args; simp_all
  obtain ⟨rfl, rfl⟩ := trodVars_none hV
  obtain ⟨a0, len0, cap0, rfl⟩ := okWide_slice Try.underlying23 (hval 0 23 v0 rfl rfl)
  have k0 := h0
  have lt0 : ∀ x ∈ p0, x.block < W.heap.size := by obtain ⟨m, hm⟩ := k0; exact DataW.trod_lt m _ _ _ hm
  obtain ⟨o0, w0, ws0⟩ : ∃ os, RdS W a0 len0 cap0 os ∧ len0 ≤ 17592186043904 := by
    obtain ⟨fuel, hf⟩ := h0
    obtain ⟨os, hos⟩ := strs_of hf
    exact ⟨os, hos, strs_sized hf hsz (j := 0) rfl rfl⟩
  obtain ⟨a1, len1, cap1, rfl⟩ := okWide_slice Try.underlying23 (hval 1 23 v1 rfl rfl)
  have k1 := h1
  have lt1 : ∀ x ∈ p1, x.block < W.heap.size := by obtain ⟨m, hm⟩ := k1; exact DataW.trod_lt m _ _ _ hm
  obtain ⟨o1, w1, ws1⟩ : ∃ os, RdS W a1 len1 cap1 os ∧ len1 ≤ 17592186043904 := by
    obtain ⟨fuel, hf⟩ := h1
    obtain ⟨os, hos⟩ := strs_of hf
    exact ⟨os, hos, strs_sized hf hsz (j := 1) rfl rfl⟩
  clear hA0 hval0
  refine (walk a0 len0 cap0 o0 a1 len1 cap1 o1 W w0 ws0 w1 ws1).mono fun e W' ⟨he, bel⟩ => ?_
  subst he
  exact ⟨_, rfl, _, _, _, [], _, [], hW', trodAll_mk1 (shut_bool Try.underlying4 _), (trodAll_cons_mk (Below.trod laidOut (by kernel_rfl) (of_decide_eq_true (by kernel_rfl)) k0 bel lt0) (trodAll_cons_mk (Below.trod laidOut (by kernel_rfl) (of_decide_eq_true (by kernel_rfl)) k1 bel lt1) trodAll_mk0)), rfl, bel.frame _, fun h => by cases h⟩

theorem over : Rows.pathJoinsRow.holds Try.pinned (OpenSpec.ofChange Rows.pathJoinsSpec) :=
  OpenClaim.holds_of_wide 4 Try.f4 rfl rfl rfl rfl rfl rfl rfl ⟨rfl, rfl, rfl, rfl, rfl⟩ rfl rfl rfl rfl rfl (by kernel_rfl) Try.func4 (by kernel_rfl)
    (of_decide_eq_true (by kernel_rfl)) (by unfold Func.isWrapper; first | (rw [if_pos (by decide +kernel)]; kernel_rfl) | (rw [if_neg (by decide +kernel)]; exact ⟨rfl, rfl⟩))
    (fun os started H enc _ => lifted os started H enc)

end Go.Proofs.Ytfnoppnmilmglaa.pathJoins

namespace Go.Proofs.Ytfnoppnmilmglaa
/-- The statement. -/
theorem pathJoins_proved : Rows.PathJoinsSaid := pathJoins.over
#print axioms pathJoins_proved
end Go.Proofs.Ytfnoppnmilmglaa
