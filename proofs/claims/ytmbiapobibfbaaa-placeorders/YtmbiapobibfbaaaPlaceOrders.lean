/- Proved: PlaceOrders, for every two places and every two numbers, with no condition: it answers true. -/
import Derived.Test.YtmbiapobibfbaaaPLive
import Derived.Test.YtmbiapobibfbaaaRCompare
import Derived.Test.YtmbiapobibfbaaaRKey
import Derived.Test.YtmbiapobibfbaaaPArg
import Derived.Deep.RegionHeld3
import Derived.BigQuiet
import Derived.Deep.QuietTactic
import Derived.WalkSmall
import Derived.ProofKit
import Derived.OpenShut
import Derived.ShutString
import Derived.ChangeOld
import Derived.Below
import Derived.Carry
namespace Go.Proofs.Ytmbiapobibfbaaa.placeOrders
open Go.ChangeShapes Go.WideShapes Go.ChangeAt Go.RowKit
open Go.ChangeMaps (open_string shut_string)
set_option linter.unusedVariables false

theorem own : ownKnob Try.prog.godebug = none := by kernel_rfl
theorem laidOut : laidOutB Try.prog = true := by kernel_rfl

set_option maxRecDepth 100000 in
set_option maxHeartbeats 8000000 in
theorem walk (a b : Pl) (i k : Int) (w : World) (ha : PlOk a) (hb : PlOk b) (hi : (Lit.int .u32 i).wf = true) (hk : (Lit.int .i64 k).wf = true) : Calls Try.prog 4 #[plV a, plV b, .int .u32 i, .int .i64 k] w fun e w' => e = .returned (.bool true) ∧ Below w.heap.size w w' := by
  obtain ⟨i0, i1⟩ := bounds_u32 hi
  obtain ⟨k0, k1⟩ := bounds_i64 hk
  clear hi hk ha hb
  obtain ⟨w1, hw1⟩ : ∃ w1, w1 = (w.alloc (.cells #[.int .u32 a.ino, .int .i64 a.part, .string a.name, .int .u32 a.chunk] 24)).alloc (.cells #[.int .u32 b.ino, .int .i64 b.part, .string b.name, .int .u32 b.chunk] 24) := ⟨_, rfl⟩
  have hb1 : Below w.heap.size w w1 := by rw [hw1]; exact ((Below.refl _ _).alloc (Nat.le_refl _) _).alloc (by simp) _
  have ha1 : PlAt w1 w.heap.size a := by
    rw [hw1]
    exact (PlAt.laid w a).below ((Below.refl _ _).alloc (Nat.le_refl _) _)
  have hB1 : PlAt w1 (w.heap.size + 1) b := by
    rw [hw1]
    have := PlAt.laid (w.alloc (.cells (plCells a) 24)) b
    have hs : (w.alloc (.cells (plCells a) 24)).heap.size = w.heap.size + 1 := by simp
    rw [hs] at this
    exact this
  have cab : ∀ W, Calls Try.prog 20 #[.agg #[.int .u32 a.ino, .int .i64 a.part, .string a.name, .int .u32 a.chunk], .agg #[.int .u32 b.ino, .int .i64 b.part, .string b.name, .int .u32 b.chunk]] W fun e w' => e = .returned (.int .i64 (cmpP a b)) ∧ Below W.heap.size W w' := fun W => compare_any W a b
  have rab : ∀ W, Calls Try.prog 21 #[.agg #[.int .u32 a.ino, .int .i64 a.part, .string a.name, .int .u32 a.chunk], .agg #[.int .u32 b.ino, .int .i64 b.part, .string b.name, .int .u32 b.chunk]] W fun e w' => e = .returned (.int .i64 (cmpP a b)) ∧ Below W.heap.size W w' := fun W => refCompare_any W a b
  generalize cmpP a b = x at *
  unfold plV
  go_enter Try.func4, Try.ntmps4
  go_wp2_with fail
  rw [← hw1]
  clear hw1
  refine (live_any _).mono ?_
  rintro e w2 ⟨rfl, hb2⟩
  go_wp2_with fail
  refine (span_any _ i k i0 i1 k0 k1).mono ?_
  rintro e w3 ⟨rfl, hb3⟩
  go_wp2_with fail
  refine (refSpan_any _ i k i0 i1 k0 k1).mono ?_
  rintro e w4 ⟨rfl, hb4⟩
  have ha4 := ha1.below (thenB hb2 (thenB hb3 hb4))
  have hB4 := hB1.below (thenB hb2 (thenB hb3 hb4))
  have hb04 : Below w.heap.size w w4 := thenB hb1 (thenB hb2 (thenB hb3 hb4))
  generalize spF i k = kf at *
  generalize spT i k = kt at *
  generalize spE i k = ke at *
  have q0 : ∀ W, Below w4.heap.size w4 W → W.cell? ⟨w.heap.size, 0, none⟩ = some (.int .u32 a.ino) := fun W hW => (ha4.below hW).c0
  have q1 : ∀ W, Below w4.heap.size w4 W → W.cell? ⟨w.heap.size, 1, none⟩ = some (.int .i64 a.part) := fun W hW => (ha4.below hW).c1
  have q2 : ∀ W, Below w4.heap.size w4 W → W.cell? ⟨w.heap.size, 2, none⟩ = some (.string a.name) := fun W hW => (ha4.below hW).c2
  have q3 : ∀ W, Below w4.heap.size w4 W → W.cell? ⟨w.heap.size, 3, none⟩ = some (.int .u32 a.chunk) := fun W hW => (ha4.below hW).c3
  have r0 : ∀ W, Below w4.heap.size w4 W → W.cell? ⟨w.heap.size + 1, 0, none⟩ = some (.int .u32 b.ino) := fun W hW => (hB4.below hW).c0
  have r1 : ∀ W, Below w4.heap.size w4 W → W.cell? ⟨w.heap.size + 1, 1, none⟩ = some (.int .i64 b.part) := fun W hW => (hB4.below hW).c1
  have r2 : ∀ W, Below w4.heap.size w4 W → W.cell? ⟨w.heap.size + 1, 2, none⟩ = some (.string b.name) := fun W hW => (hB4.below hW).c2
  have r3 : ∀ W, Below w4.heap.size w4 W → W.cell? ⟨w.heap.size + 1, 3, none⟩ = some (.int .u32 b.chunk) := fun W hW => (hB4.below hW).c3
  clear ha1 hB1 ha4 hB4 hb1 hb2 hb3 hb4
  go_wp2_with fail
  refine wp_region_noPanic ?_
  go_region_held (fun W => Below w4.heap.size w4 W) (first | assumption | exact (Below.refl _ _).drew | exact keep2 (by assumption) (by assumption))
    (first
      | (go_at_call 20; refine (cab _).mono ?_; rintro e w5 ⟨rfl, hb5⟩)
      | (go_at_call 21; refine (rab _).mono ?_; rintro e w6 ⟨rfl, hb6⟩))
  refine NoPanic.normal ?_
  have hlast : Below w4.heap.size w4 w6 := by assumption
  clear q0 q1 q2 q3 r0 r1 r2 r3 cab rab
  go_wp2
  go_ret
  exact ⟨rfl, thenB hb04 hlast⟩

/-! ### The row -/
set_option maxRecDepth 100000 in
theorem lifted (os : Os) (started : os.Started) (H : Type) (enc : TypeId × Value → H) :
    ReturnsInHanded {} Try.checked os 4 .any (Rows.placeOrdersSpec.pre6 enc Try.prog Try.f4 Rows.placeOrdersRow.domain false) (Rows.placeOrdersSpec.post enc Try.prog Try.f4 false true false false) := by
  refine returnsInHanded_of_change (C := Try.checked) own started (by kernel_rfl) Try.func4
    (ChangeSpec.witness6 (enc := enc) (C := Try.checked) false ⟨#[], #[.agg #[.int .u32 0, .int .i64 0, .string ByteArray.empty, .int .u32 0], .agg #[.int .u32 0, .int .i64 0, .string ByteArray.empty, .int .u32 0], .int .u32 0, .int .i64 0], []⟩ 8 (by kernel_rfl) (by kernel_rfl) (by kernel_rfl) (by kernel_rfl)) ?_
  intro W base args ds gs before hval0 hW hcnd _
  have hval : ∀ (j : Nat) t v, Try.f4.params[j]? = some t → args[j]? = some v → Value.okWide Try.prog W .any base t v := hval0
  have hW' := hW
  obtain ⟨p, q, hA0, hV, rfl, hfz, hnd⟩ := hW
  have hA : DataW.TrodAll enc Try.prog W 0 (fun _ => true) true Try.f4.params.toList args.toList ds p := hA0
  rw [Try.params4] at hA hval
  obtain ⟨v0, vs0, d0, ds0, p0, q0, hargs, rfl, rfl, h0, r0⟩ := trodAll_cons hA
  obtain ⟨v1, vs1, d1, ds1, p1, q1, rfl, rfl, rfl, h1, r1⟩ := trodAll_cons r0
  obtain ⟨v2, vs2, d2, ds2, p2, q2, rfl, rfl, rfl, h2, r2⟩ := trodAll_cons r1
  obtain ⟨v3, vs3, d3, ds3, p3, q3, rfl, rfl, rfl, h3, r3⟩ := trodAll_cons r2
  obtain ⟨rfl, rfl, rfl⟩ := trodAll_nil r3
  obtain rfl : args = #[v0, v1, v2, v3] := by cases args; simp_all
  obtain ⟨rfl, rfl⟩ := trodVars_none hV
  obtain ⟨cs0, rfl, sz0⟩ := okWide_struct Try.underlying24 (hval 0 24 v0 rfl rfl)
  have k0 := h0
  have lt0 : ∀ x ∈ p0, x.block < W.heap.size := by obtain ⟨m, hm⟩ := k0; exact DataW.trod_lt m _ _ _ hm
  obtain ⟨a0, w0, rfl⟩ : ∃ q : Pl, PlOk q ∧ cs0 = plCells q := by
    obtain ⟨fuel, hf⟩ := h0
    exact place_of sz0 hf
  obtain ⟨cs1, rfl, sz1⟩ := okWide_struct Try.underlying24 (hval 1 24 v1 rfl rfl)
  have k1 := h1
  have lt1 : ∀ x ∈ p1, x.block < W.heap.size := by obtain ⟨m, hm⟩ := k1; exact DataW.trod_lt m _ _ _ hm
  obtain ⟨a1, w1, rfl⟩ : ∃ q : Pl, PlOk q ∧ cs1 = plCells q := by
    obtain ⟨fuel, hf⟩ := h1
    exact place_of sz1 hf
  obtain ⟨a2, rfl, rfl, rfl, w2⟩ := open_int Try.underlying22 (hval 2 22 v2 rfl rfl) h2
  obtain ⟨a3, rfl, rfl, rfl, w3⟩ := open_int Try.underlying3 (hval 3 3 v3 rfl rfl) h3
  clear hA0 hval0
  refine (walk a0 a1 a2 a3 W w0 w1 w2 w3).mono fun e W' ⟨he, bel⟩ => ?_
  subst he
  exact ⟨_, rfl, _, _, _, [], _, [], hW', trodAll_mk1 (shut_bool Try.underlying4 _), (trodAll_cons_mk (Below.trod laidOut (by kernel_rfl) (of_decide_eq_true (by kernel_rfl)) k0 bel lt0) (trodAll_cons_mk (Below.trod laidOut (by kernel_rfl) (of_decide_eq_true (by kernel_rfl)) k1 bel lt1) (trodAll_cons_mk (shut_int Try.underlying22 w2) (trodAll_cons_mk (shut_int Try.underlying3 w3) trodAll_mk0)))), rfl, bel.frame _, fun h => by cases h⟩

theorem over : Rows.placeOrdersRow.holds Try.pinned (OpenSpec.ofChange Rows.placeOrdersSpec) :=
  OpenClaim.holds_of_wide 4 Try.f4 rfl rfl rfl rfl rfl rfl rfl ⟨rfl, rfl, rfl, rfl, rfl⟩ rfl rfl rfl rfl rfl (by kernel_rfl) Try.func4 (by kernel_rfl)
    (of_decide_eq_true (by kernel_rfl)) (by unfold Func.isWrapper; first | (rw [if_pos (by decide +kernel)]; kernel_rfl) | (rw [if_neg (by decide +kernel)]; exact ⟨rfl, rfl⟩))
    (fun os started H enc _ => lifted os started H enc)

end Go.Proofs.Ytmbiapobibfbaaa.placeOrders

namespace Go.Proofs.Ytmbiapobibfbaaa
/-- The statement. -/
theorem placeOrders_proved : Rows.PlaceOrdersSaid := placeOrders.over
#print axioms placeOrders_proved
end Go.Proofs.Ytmbiapobibfbaaa
