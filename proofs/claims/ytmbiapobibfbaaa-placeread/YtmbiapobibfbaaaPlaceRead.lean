/- Proved: PlaceRead, for every string, with no condition: it answers true. -/
import Derived.Test.YtmbiapobibfbaaaPLive
import Derived.Test.YtmbiapobibfbaaaPArg
import Derived.Deep.RegionHeld3
import Derived.BigQuiet
import Derived.Deep.QuietTactic
import Derived.WalkSmall
import Derived.ProofKit
import Derived.OpenShut
import Derived.ShutString
import Derived.ChangeOld
import Derived.Below
import Derived.Carry
namespace Go.Proofs.Ytmbiapobibfbaaa.placeRead
open Go.ChangeShapes Go.WideShapes Go.ChangeAt Go.RowKit
open Go.ChangeMaps (open_string shut_string)
set_option linter.unusedVariables false

theorem own : ownKnob Try.prog.godebug = none := by kernel_rfl
theorem laidOut : laidOutB Try.prog = true := by kernel_rfl

set_option maxRecDepth 100000 in
set_option maxHeartbeats 4000000 in
theorem walk (s : ByteArray) (w : World) (hs : s.size ≤ maxLen) : Calls Try.prog 8 #[.string s] w fun e w' => e = .returned (.bool true) ∧ Below w.heap.size w w' := by
  have hrd : ∀ W, Calls Try.prog 12 #[.string s] W fun e w' => e = .returned (.tuple #[plV (rdP s), .int .i64 (rdE s)]) ∧ Below W.heap.size W w' := fun W => read_any W s hs
  cases hok : rdOk s
  · obtain ⟨e1, e2⟩ := rd_no hok
    rw [e1, e2] at hrd
    clear hok e1 e2
    unfold plV pl0 at hrd
    go_enter Try.func8, Try.ntmps8
    go_wp2_with fail
    refine (live_any _).mono ?_
    rintro e w1 ⟨rfl, hb1⟩
    go_wp2_with fail
    refine (hrd _).mono ?_
    rintro e w2 ⟨rfl, hb2⟩
    have heq : ∀ W, (binOp .eql 24 (.agg #[.int .u32 0, .int .i64 0, .string ⟨#[]⟩, .int .u32 0]) (.agg #[.int .u32 0, .int .i64 0, .string ⟨#[]⟩, .int .u32 0])).run Try.prog W = .ok (.bool true) W := fun W => by
      rw [eq_places W 0 0 0 0 0 0 ⟨#[]⟩ ⟨#[]⟩]
      simp [plEq]
    go_wp2
    go_ret
    exact ⟨rfl, thenB hb1 (thenB hb2 ((Below.refl _ _).alloc (Nat.le_refl _) _))⟩
  · obtain ⟨e1, e2⟩ := rd_yes hok
    rw [e1, e2] at hrd
    have hsz : s.size = 14 ∧ plOk (plOf (strB s)) = true ∧ (keyS (plOf (strB s))).toList = s.toList := by
      unfold rdOk at hok
      simp only [Bool.and_eq_true, decide_eq_true_iff, beq_iff_eq] at hok
      exact ⟨hok.1.1, hok.1.2, hok.2⟩
    obtain ⟨h14, hpk, hks⟩ := hsz
    have hpok := plOf_ok (strB s) (strB_byt s) (by rw [strB_length]; exact h14)
    generalize plOf (strB s) = q at *
    have hky : ∀ W, Calls Try.prog 10 #[.agg #[.int .u32 q.ino, .int .i64 q.part, .string q.name, .int .u32 q.chunk]] W fun e w' => e = .returned (.tuple #[.string (keyS q), .int .i64 0]) ∧ Below W.heap.size W w' := fun W => by
      have := key_any W q hpok
      rwa [show plE q = 0 from by unfold plE; rw [hpk]; rfl] at this
    have hck : ∀ W, Calls Try.prog 14 #[.agg #[.int .u32 q.ino, .int .i64 q.part, .string q.name, .int .u32 q.chunk]] W fun e w' => e = .returned (.int .i64 0) ∧ Below W.heap.size W w' := fun W => by
      have := check_any W q hpok
      rwa [show plE q = 0 from by unfold plE; rw [hpk]; rfl] at this
    clear hok e1 e2 h14 hpk hpok
    unfold plV at hrd
    go_enter Try.func8, Try.ntmps8
    go_wp2_with fail
    refine (live_any _).mono ?_
    rintro e w1 ⟨rfl, hb1⟩
    go_wp2_with fail
    refine (hrd _).mono ?_
    rintro e w2 ⟨rfl, hb2⟩
    go_wp2_with fail
    obtain ⟨w3, hw3⟩ : ∃ w3, w3 = w2.alloc (.cells #[.int .u32 q.ino, .int .i64 q.part, .string q.name, .int .u32 q.chunk] 24) := ⟨_, rfl⟩
    rw [← hw3]
    have hb3 : Below w2.heap.size w2 w3 := by rw [hw3]; exact (Below.refl _ _).alloc (Nat.le_refl _) _
    have hp3 : PlAt w3 w2.heap.size q := by rw [hw3]; exact PlAt.laid w2 q
    clear hw3
    refine (hky _).mono ?_
    rintro e w4 ⟨rfl, hb4⟩
    have hp4 := hp3.below hb4
    have c0 := hp4.c0
    have c1 := hp4.c1
    have c2 := hp4.c2
    have c3 := hp4.c3
    go_wp2_with fail
    refine (hck _).mono ?_
    rintro e w5 ⟨rfl, hb5⟩
    clear c0 c1 c2 c3
    go_wp2
    go_ret
    exact ⟨rfl, thenB hb1 (thenB hb2 (thenB hb3 (thenB hb4 hb5)))⟩

/-! ### The row -/
set_option maxRecDepth 100000 in
theorem lifted (os : Os) (started : os.Started) (H : Type) (enc : TypeId × Value → H) :
    ReturnsInHanded {} Try.checked os 8 .any (Rows.placeReadSpec.pre6 enc Try.prog Try.f8 Rows.placeReadRow.domain false) (Rows.placeReadSpec.post enc Try.prog Try.f8 false true false false) := by
  refine returnsInHanded_of_change (C := Try.checked) own started (by kernel_rfl) Try.func8
    (ChangeSpec.witness6 (enc := enc) (C := Try.checked) false ⟨#[], #[.string ByteArray.empty], []⟩ 8 (by kernel_rfl) (by kernel_rfl) (by kernel_rfl) (by kernel_rfl)) ?_
  intro W base args ds gs before hval0 hW hcnd _
  have hval : ∀ (j : Nat) t v, Try.f8.params[j]? = some t → args[j]? = some v → Value.okWide Try.prog W .any base t v := hval0
  have hW' := hW
  obtain ⟨p, q, hA0, hV, rfl, hfz, hnd⟩ := hW
  have hA : DataW.TrodAll enc Try.prog W 0 (fun _ => true) true Try.f8.params.toList args.toList ds p := hA0
  rw [Try.params8] at hA hval
  obtain ⟨v0, vs0, d0, ds0, p0, q0, hargs, rfl, rfl, h0, r0⟩ := trodAll_cons hA
  obtain ⟨rfl, rfl, rfl⟩ := trodAll_nil r0
  obtain rfl : args = #[v0] := by cases args; simp_all
  obtain ⟨rfl, rfl⟩ := trodVars_none hV
  obtain ⟨a0, rfl, rfl, rfl, w0⟩ := open_string Try.underlying9 (hval 0 9 v0 rfl rfl) h0
  clear hA0 hval0
  refine (walk a0 W w0).mono fun e W' ⟨he, bel⟩ => ?_
  subst he
  exact ⟨_, rfl, _, _, _, [], _, [], hW', trodAll_mk1 (shut_bool Try.underlying4 _), (trodAll_cons_mk (shut_string Try.underlying9 w0) trodAll_mk0), rfl, bel.frame _, fun h => by cases h⟩

theorem over : Rows.placeReadRow.holds Try.pinned (OpenSpec.ofChange Rows.placeReadSpec) :=
  OpenClaim.holds_of_wide 8 Try.f8 rfl rfl rfl rfl rfl rfl rfl ⟨rfl, rfl, rfl, rfl, rfl⟩ rfl rfl rfl rfl rfl (by kernel_rfl) Try.func8 (by kernel_rfl)
    (of_decide_eq_true (by kernel_rfl)) (by unfold Func.isWrapper; first | (rw [if_pos (by decide +kernel)]; kernel_rfl) | (rw [if_neg (by decide +kernel)]; exact ⟨rfl, rfl⟩))
    (fun os started H enc _ => lifted os started H enc)

end Go.Proofs.Ytmbiapobibfbaaa.placeRead

namespace Go.Proofs.Ytmbiapobibfbaaa
/-- The statement. -/
theorem placeRead_proved : Rows.PlaceReadSaid := placeRead.over
#print axioms placeRead_proved
end Go.Proofs.Ytmbiapobibfbaaa
