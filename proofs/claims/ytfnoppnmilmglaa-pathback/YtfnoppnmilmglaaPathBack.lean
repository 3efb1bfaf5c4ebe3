/- Proved: for every text and every list of texts: what was split is joined as what it was, and what was joined is split as what it was; no condition. -/
import Derived.Test.YtfnoppnmilmglaaPhLive
import Derived.Test.YtfnoppnmilmglaaPhArg
import Derived.Deep.RegionHeld3
import Derived.BigQuiet
import Derived.Deep.QuietTactic
import Derived.WalkSmall
import Derived.ProofKit
import Derived.OpenShut
import Derived.ShutString
import Derived.ChangeOld
import Derived.Below
import Derived.Carry
import Derived.Deep.CutRange
import Derived.Deep.CutBlock
import Derived.Deep.LoopGhost
namespace Go.Proofs.Ytfnoppnmilmglaa.pathBack
open Go.ChangeShapes Go.WideShapes Go.ChangeAt Go.RowKit
open Go.ChangeMaps (open_string shut_string)
set_option linter.unusedVariables false
set_option linter.unusedSimpArgs false

theorem own : ownKnob Try.prog.godebug = none := by kernel_rfl
theorem laidOut : laidOutB Try.prog = true := by kernel_rfl

theorem joinS_le {l : List ByteArray} (h : joinE l = 0) : (joinS l).size ≤ 100 := by
  have hh : l.length ≤ 6 ∧ l.all nameOk = true := by
    unfold joinE at h
    split at h
    · split at h
      · exact ⟨‹_›, ‹_›⟩
      · cases h
    · cases h
  unfold joinS
  rw [if_pos h]
  split
  · decide
  · have := gluS_le hh.2
    omega

set_option maxRecDepth 100000 in
set_option maxHeartbeats 8000000 in
theorem walk (s : ByteArray) (a : Option Addr) (n c : Nat) (l : List ByteArray) (w : World) (hs : s.size ≤ maxLen) (hl : RdS w a n c l) (hn : n ≤ 17592186043904) :
    Calls Try.prog 5 #[.string s, .slice a n c] w fun e w' => e = .returned (.bool true) ∧ Below w.heap.size w w' := by
  have HL : Hid (RdS w a n c l ∧ s.size ≤ maxLen) := ⟨hl, hs⟩
  clear hl
  unfold maxLen at hs
  go_enter Try.func5, Try.ntmps5
  go_wp2_with fail
  refine (live_any _).mono ?_
  rintro e w1 ⟨rfl, hb1⟩
  have B1 : Hid (Below w.heap.size w w1) := hb1
  have L1 : Hid (RdS w1 a n c l) := HL.out.1.below hb1
  clear hb1
  by_cases hbig : (s.size : Int) > 100000
  · go_wp2
    go_ret
    exact ⟨rfl, B1.out⟩
  by_cases hbig2 : (n : Int) > 1000
  · go_wp2
    go_ret
    exact ⟨rfl, B1.out⟩
  have c1 := psplit_any w1 s HL.out.2
  unfold SpOut at c1
  go_wp2_with fail
  refine c1.mono ?_
  rintro e w2 ⟨a2, n2, c2, rfl, hf2, hb2⟩
  clear c1
  have B2 : Hid (Below w.heap.size w w2) := thenB B1.out hb2
  have L2 : Hid (RdS w2 a n c l) := L1.out.below hb2
  have F2 : Hid (FrR w1.heap.size w2 a2 n2 c2 (pathL s)) := hf2
  clear hf2 hb2
  rcases pathE_or s with h0 | h0
  · obtain ⟨hp, hq⟩ := join_split h0
    have c2' := pjoin_any a2 n2 c2 (pathL s) F2.out.1 (fun x hx => by
      have := nameOk_size (List.all_eq_true.1 (path_all h0).2 x hx)
      rw [← size_list] at this
      unfold maxLen; omega)
    rw [hp, hq] at c2'
    rw [h0]
    clear hp hq
    go_wp2_with fail
    refine c2'.mono ?_
    rintro e w3 ⟨rfl, hb3⟩
    clear c2'
    have B3 : Hid (Below w.heap.size w w3) := thenB B2.out hb3
    have L3 : Hid (RdS w3 a n c l) := L2.out.below hb3
    clear hb3 h0
    have c3 := pjoin_any a n c l L3.out.1 L3.out.2
    go_wp2_with fail
    refine c3.mono ?_
    rintro e w7 ⟨rfl, hb7⟩
    clear c3
    have B7 : Hid (Below w.heap.size w w7) := thenB B3.out hb7
    have L7 : Hid (RdS w7 a n c l) := L3.out.below hb7
    clear hb7
    rcases joinE_or l with hj | hj
    · obtain ⟨hp, hq⟩ := split_join hj
      have c4 := psplit_any w7 (joinS l) (by unfold maxLen; have := joinS_le hj; omega)
      unfold SpOut at c4
      rw [hp, hq] at c4
      rw [hj]
      clear hp hq
      go_wp2_with fail
      refine c4.mono ?_
      rintro e w8 ⟨a8, n8, c8, rfl, hf8, hb8⟩
      clear c4
      have B8 : Hid (Below w.heap.size w w8) := thenB B7.out hb8
      have c5 := same_any a8 n8 c8 l hf8.1 a n c l (L7.out.below hb8).1 (by have := hf8.1.len.1; have := L7.out.1.len.1; omega)
      rw [sameL_iff.2 rfl] at c5
      clear hf8 hb8
      go_wp2_with fail
      refine c5.mono ?_
      rintro e w9 ⟨rfl, hb9⟩
      have B9 : Hid (Below w.heap.size w w9) := thenB B8.out hb9
      clear hb9 c5
      go_wp2
      go_ret
      exact ⟨rfl, B9.out⟩
    · rw [hj]
      go_wp2
      go_ret
      exact ⟨rfl, B7.out⟩
  · rw [h0]
    clear h0
    have c3 := pjoin_any a n c l L2.out.1 L2.out.2
    go_wp2_with fail
    refine c3.mono ?_
    rintro e w7 ⟨rfl, hb7⟩
    clear c3
    have B7 : Hid (Below w.heap.size w w7) := thenB B2.out hb7
    have L7 : Hid (RdS w7 a n c l) := L2.out.below hb7
    clear hb7
    rcases joinE_or l with hj | hj
    · obtain ⟨hp, hq⟩ := split_join hj
      have c4 := psplit_any w7 (joinS l) (by unfold maxLen; have := joinS_le hj; omega)
      unfold SpOut at c4
      rw [hp, hq] at c4
      rw [hj]
      clear hp hq
      go_wp2_with fail
      refine c4.mono ?_
      rintro e w8 ⟨a8, n8, c8, rfl, hf8, hb8⟩
      clear c4
      have B8 : Hid (Below w.heap.size w w8) := thenB B7.out hb8
      have c5 := same_any a8 n8 c8 l hf8.1 a n c l (L7.out.below hb8).1 (by have := hf8.1.len.1; have := L7.out.1.len.1; omega)
      rw [sameL_iff.2 rfl] at c5
      clear hf8 hb8
      go_wp2_with fail
      refine c5.mono ?_
      rintro e w9 ⟨rfl, hb9⟩
      have B9 : Hid (Below w.heap.size w w9) := thenB B8.out hb9
      clear hb9 c5
      go_wp2
      go_ret
      exact ⟨rfl, B9.out⟩
    · rw [hj]
      go_wp2
      go_ret
      exact ⟨rfl, B7.out⟩

/-! ### The row -/
set_option maxRecDepth 100000 in
theorem lifted (os : Os) (started : os.Started) (H : Type) (enc : TypeId × Value → H) :
    ReturnsInHanded {} Try.checked os 5 .any (Rows.pathBackSpec.pre6 enc Try.prog Try.f5 Rows.pathBackRow.domain false) (Rows.pathBackSpec.post enc Try.prog Try.f5 false true false false) := by
  refine returnsInHanded_of_change_sized (C := Try.checked) own started (by kernel_rfl) Try.func5
    (ChangeSpec.witness6 (enc := enc) (C := Try.checked) false ⟨#[], #[.string ByteArray.empty, .slice none 0 0], []⟩ 8 (by kernel_rfl) (by kernel_rfl) (by kernel_rfl) (by kernel_rfl)) ?_
  intro W base args ds gs before hval0 hW hcnd hsz0 _
  have hsz : (DataW.weightsEach Try.prog (Try.f5.params.toList ++ Rows.pathBackSpec.plain.varTypes Try.prog) (ds ++ gs)).all (· ≤ reachBytes) = true := hsz0
  clear hsz0
  have hval : ∀ (j : Nat) t v, Try.f5.params[j]? = some t → args[j]? = some v → Value.okWide Try.prog W .any base t v := hval0
  have hW' := hW
  obtain ⟨p, q, hA0, hV, rfl, hfz, hnd⟩ := hW
  have hA : DataW.TrodAll enc Try.prog W 0 (fun _ => true) true Try.f5.params.toList args.toList ds p := hA0
  rw [Try.params5] at hA hval hsz
  obtain ⟨v0, vs0, d0, ds0, p0, q0, hargs, rfl, rfl, h0, r0⟩ := trodAll_cons hA
  obtain ⟨v1, vs1, d1, ds1, p1, q1, rfl, rfl, rfl, h1, r1⟩ := trodAll_cons r0
  obtain ⟨rfl, rfl, rfl⟩ := trodAll_nil r1
  obtain rfl : args = #[v0, v1] := by cases args; simp_all
  obtain ⟨rfl, rfl⟩ := trodVars_none hV
  obtain ⟨a0, rfl, rfl, rfl, w0⟩ := open_string Try.underlying9 (hval 0 9 v0 rfl rfl) h0
  obtain ⟨a1, len1, cap1, rfl⟩ := okWide_slice Try.underlying23 (hval 1 23 v1 rfl rfl)
  have k1 := h1
  have lt1 : ∀ x ∈ p1, x.block < W.heap.size := by obtain ⟨m, hm⟩ := k1; exact DataW.trod_lt m _ _ _ hm
  obtain ⟨o1, w1, ws1⟩ : ∃ os, RdS W a1 len1 cap1 os ∧ len1 ≤ 17592186043904 := by
    obtain ⟨fuel, hf⟩ := h1
    obtain ⟨os, hos⟩ := strs_of hf
    exact ⟨os, hos, strs_sized hf hsz (j := 1) rfl rfl⟩
  clear hA0 hval0
  refine (walk a0 a1 len1 cap1 o1 W w0 w1 ws1).mono fun e W' ⟨he, bel⟩ => ?_
  subst he
  exact ⟨_, rfl, _, _, _, [], _, [], hW', trodAll_mk1 (shut_bool Try.underlying4 _), (trodAll_cons_mk (shut_string Try.underlying9 w0) (trodAll_cons_mk (Below.trod laidOut (by kernel_rfl) (of_decide_eq_true (by kernel_rfl)) k1 bel lt1) trodAll_mk0)), rfl, bel.frame _, fun h => by cases h⟩

theorem over : Rows.pathBackRow.holds Try.pinned (OpenSpec.ofChange Rows.pathBackSpec) :=
  OpenClaim.holds_of_wide 5 Try.f5 rfl rfl rfl rfl rfl rfl rfl ⟨rfl, rfl, rfl, rfl, rfl⟩ rfl rfl rfl rfl rfl (by kernel_rfl) Try.func5 (by kernel_rfl)
    (of_decide_eq_true (by kernel_rfl)) (by unfold Func.isWrapper; first | (rw [if_pos (by decide +kernel)]; kernel_rfl) | (rw [if_neg (by decide +kernel)]; exact ⟨rfl, rfl⟩))
    (fun os started H enc _ => lifted os started H enc)

end Go.Proofs.Ytfnoppnmilmglaa.pathBack

namespace Go.Proofs.Ytfnoppnmilmglaa
/-- The statement. -/
theorem pathBack_proved : Rows.PathBackSaid := pathBack.over
#print axioms pathBack_proved
end Go.Proofs.Ytfnoppnmilmglaa
