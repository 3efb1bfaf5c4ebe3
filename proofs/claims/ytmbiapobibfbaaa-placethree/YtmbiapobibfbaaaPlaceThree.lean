/- Proved: PlaceThree, for every three places, with no condition: it answers true. -/
import Derived.Test.YtmbiapobibfbaaaPLive
import Derived.Test.YtmbiapobibfbaaaOrdMath
import Derived.Test.YtmbiapobibfbaaaPArg
import Derived.Deep.RegionHeld3
import Derived.BigQuiet
import Derived.Deep.QuietTactic
import Derived.WalkSmall
import Derived.ProofKit
import Derived.OpenShut
import Derived.ShutString
import Derived.ChangeOld
import Derived.Below
import Derived.Carry
namespace Go.Proofs.Ytmbiapobibfbaaa.placeThree
open Go.ChangeShapes Go.WideShapes Go.ChangeAt Go.RowKit
open Go.ChangeMaps (open_string shut_string)
set_option linter.unusedVariables false

theorem own : ownKnob Try.prog.godebug = none := by kernel_rfl
theorem laidOut : laidOutB Try.prog = true := by kernel_rfl

set_option maxRecDepth 100000 in
set_option maxHeartbeats 8000000 in
theorem walk (a b c : Pl) (w : World) (ha : PlOk a) (hb : PlOk b) (hc : PlOk c) : Calls Try.prog 7 #[plV a, plV b, plV c] w fun e w' => e = .returned (.bool true) ∧ Below w.heap.size w w' := by
  clear ha hb hc
  obtain ⟨x, hx⟩ : ∃ x, cmpP a b = x := ⟨_, rfl⟩
  obtain ⟨y, hy⟩ : ∃ y, cmpP b c = y := ⟨_, rfl⟩
  obtain ⟨z, hz⟩ : ∃ z, cmpP a c = z := ⟨_, rfl⟩
  obtain ⟨g1, g2, g3⟩ := cmpP_ord.goes a b c
  have tx := cmpP_ord.three a b
  have ty := cmpP_ord.three b c
  have tz := cmpP_ord.three a c
  have turn := cmpP_ord.turn a b
  have hself := cmpP_ord.same a
  have hzero := cmpP_ord.zero a b
  rw [hx, hy, hz] at g1
  rw [hx, hy, hz] at g2
  rw [hx, hy, hz] at g3
  rw [hx] at tx turn hzero
  rw [hy] at ty
  rw [hz] at tz
  have cab : ∀ W, Calls Try.prog 20 #[.agg #[.int .u32 a.ino, .int .i64 a.part, .string a.name, .int .u32 a.chunk], .agg #[.int .u32 b.ino, .int .i64 b.part, .string b.name, .int .u32 b.chunk]] W fun e w' => e = .returned (.int .i64 x) ∧ Below W.heap.size W w' := fun W => by have := compare_any W a b; rwa [hx] at this
  have cbc : ∀ W, Calls Try.prog 20 #[.agg #[.int .u32 b.ino, .int .i64 b.part, .string b.name, .int .u32 b.chunk], .agg #[.int .u32 c.ino, .int .i64 c.part, .string c.name, .int .u32 c.chunk]] W fun e w' => e = .returned (.int .i64 y) ∧ Below W.heap.size W w' := fun W => by have := compare_any W b c; rwa [hy] at this
  have cac : ∀ W, Calls Try.prog 20 #[.agg #[.int .u32 a.ino, .int .i64 a.part, .string a.name, .int .u32 a.chunk], .agg #[.int .u32 c.ino, .int .i64 c.part, .string c.name, .int .u32 c.chunk]] W fun e w' => e = .returned (.int .i64 z) ∧ Below W.heap.size W w' := fun W => by have := compare_any W a c; rwa [hz] at this
  have cba : ∀ W, Calls Try.prog 20 #[.agg #[.int .u32 b.ino, .int .i64 b.part, .string b.name, .int .u32 b.chunk], .agg #[.int .u32 a.ino, .int .i64 a.part, .string a.name, .int .u32 a.chunk]] W fun e w' => e = .returned (.int .i64 (-x)) ∧ Below W.heap.size W w' := fun W => by have := compare_any W b a; rwa [turn] at this
  have caa : ∀ W, Calls Try.prog 20 #[.agg #[.int .u32 a.ino, .int .i64 a.part, .string a.name, .int .u32 a.chunk], .agg #[.int .u32 a.ino, .int .i64 a.part, .string a.name, .int .u32 a.chunk]] W fun e w' => e = .returned (.int .i64 0) ∧ Below W.heap.size W w' := fun W => by have := compare_any W a a; rwa [hself] at this
  have heq : ∀ W, (binOp .eql 24 (.agg #[.int .u32 a.ino, .int .i64 a.part, .string a.name, .int .u32 a.chunk]) (.agg #[.int .u32 b.ino, .int .i64 b.part, .string b.name, .int .u32 b.chunk])).run Try.prog W = .ok (.bool (x == 0)) W := fun W => by
    rw [eq_places]
    have : plEq a b = (x == 0) := by rw [Bool.eq_iff_iff, plEq_iff, beq_iff_eq]; exact hzero.symm
    exact congrArg (fun t => Result.ok (Value.bool t) W) this
  clear hx hy hz turn hself hzero
  obtain ⟨w1, hw1⟩ : ∃ w1, w1 = ((w.alloc (.cells #[.int .u32 a.ino, .int .i64 a.part, .string a.name, .int .u32 a.chunk] 24)).alloc (.cells #[.int .u32 b.ino, .int .i64 b.part, .string b.name, .int .u32 b.chunk] 24)).alloc (.cells #[.int .u32 c.ino, .int .i64 c.part, .string c.name, .int .u32 c.chunk] 24) := ⟨_, rfl⟩
  have hb1 : Below w.heap.size w w1 := by rw [hw1]; exact (((Below.refl _ _).alloc (Nat.le_refl _) _).alloc (by simp) _).alloc (by simp; omega) _
  have ha1 : PlAt w1 w.heap.size a := by
    rw [hw1]
    exact (PlAt.laid w a).below (((Below.refl _ _).alloc (Nat.le_refl _) _).alloc (by simp) _)
  have hB1 : PlAt w1 (w.heap.size + 1) b := by
    have := PlAt.laid (w.alloc (.cells (plCells a) 24)) b
    have hs : (w.alloc (.cells (plCells a) 24)).heap.size = w.heap.size + 1 := by simp
    rw [hs] at this
    rw [hw1]
    exact this.below ((Below.refl _ _).alloc (Nat.le_refl _) _)
  have hC1 : PlAt w1 (w.heap.size + 2) c := by
    have := PlAt.laid ((w.alloc (.cells (plCells a) 24)).alloc (.cells (plCells b) 24)) c
    have hs : ((w.alloc (.cells (plCells a) 24)).alloc (.cells (plCells b) 24)).heap.size = w.heap.size + 2 := by simp
    rw [hs] at this
    rw [hw1]
    exact this
  unfold plV
  go_enter Try.func7, Try.ntmps7
  go_wp2_with fail
  rw [← hw1]
  clear hw1
  refine (live_any _).mono ?_
  rintro e w2 ⟨rfl, hb2⟩
  have ha2 := ha1.below hb2
  have hB2 := hB1.below hb2
  have hC2 := hC1.below hb2
  have p0 := ha2.c0
  have p1 := ha2.c1
  have p2 := ha2.c2
  have p3 := ha2.c3
  have q0 := hB2.c0
  have q1 := hB2.c1
  have q2 := hB2.c2
  have q3 := hB2.c3
  go_wp2_with fail
  refine (cab _).mono ?_
  rintro e w3 ⟨rfl, hb3⟩
  clear p0 p1 p2 p3 q0 q1 q2 q3
  have ha3 := ha2.below hb3
  have hB3 := hB2.below hb3
  have hC3 := hC2.below hb3
  have q0 := hB3.c0
  have q1 := hB3.c1
  have q2 := hB3.c2
  have q3 := hB3.c3
  have r0 := hC3.c0
  have r1 := hC3.c1
  have r2 := hC3.c2
  have r3 := hC3.c3
  go_wp2_with fail
  refine (cbc _).mono ?_
  rintro e w4 ⟨rfl, hb4⟩
  clear q0 q1 q2 q3 r0 r1 r2 r3
  have ha4 := ha3.below hb4
  have hB4 := hB3.below hb4
  have hC4 := hC3.below hb4
  have p0 := ha4.c0
  have p1 := ha4.c1
  have p2 := ha4.c2
  have p3 := ha4.c3
  have r0 := hC4.c0
  have r1 := hC4.c1
  have r2 := hC4.c2
  have r3 := hC4.c3
  go_wp2_with fail
  refine (cac _).mono ?_
  rintro e w5 ⟨rfl, hb5⟩
  clear p0 p1 p2 p3 r0 r1 r2 r3
  have ha5 := ha4.below hb5
  have hB5 := hB4.below hb5
  have p0 := ha5.c0
  have p1 := ha5.c1
  have p2 := ha5.c2
  have p3 := ha5.c3
  have q0 := hB5.c0
  have q1 := hB5.c1
  have q2 := hB5.c2
  have q3 := hB5.c3
  go_wp2_with fail
  refine (cba _).mono ?_
  rintro e w6 ⟨rfl, hb6⟩
  clear p0 p1 p2 p3 q0 q1 q2 q3
  have ha6 := ha5.below hb6
  have hB6 := hB5.below hb6
  have p0 := ha6.c0
  have p1 := ha6.c1
  have p2 := ha6.c2
  have p3 := ha6.c3
  have hb06 : Below w.heap.size w w6 := thenB hb1 (thenB hb2 (thenB hb3 (thenB hb4 (thenB hb5 hb6))))
  clear hb1 hb2 hb3 hb4 hb5 hb6 ha1 hB1 hC1 ha2 hB2 hC2 ha3 hB3 hC3 ha4 hB4 hC4 ha5 hB5
  have hxx : (x == IntKind.i64.wrap (-(-x))) = true := by
    rcases tx with rfl | rfl | rfl <;> decide
  rcases tx with rfl | rfl | rfl <;> rcases ty with rfl | rfl | rfl <;> rcases tz with rfl | rfl | rfl <;>
    first
    | (exfalso; omega)
    | (clear g1 g2 g3 hxx
       go_wp2_with fail
       refine (caa _).mono ?_
       rintro e w7 ⟨rfl, hb7⟩
       have ha7 := ha6.below hb7
       have hB7 := hB6.below hb7
       clear p0 p1 p2 p3
       have p0 := ha7.c0
       have p1 := ha7.c1
       have p2 := ha7.c2
       have p3 := ha7.c3
       have q0 := hB7.c0
       have q1 := hB7.c1
       have q2 := hB7.c2
       have q3 := hB7.c3
       go_wp2
       go_ret
       exact ⟨rfl, thenB hb06 hb7⟩)

/-! ### The row -/
set_option maxRecDepth 100000 in
theorem lifted (os : Os) (started : os.Started) (H : Type) (enc : TypeId × Value → H) :
    ReturnsInHanded {} Try.checked os 7 .any (Rows.placeThreeSpec.pre6 enc Try.prog Try.f7 Rows.placeThreeRow.domain false) (Rows.placeThreeSpec.post enc Try.prog Try.f7 false true false false) := by
  refine returnsInHanded_of_change (C := Try.checked) own started (by kernel_rfl) Try.func7
    (ChangeSpec.witness6 (enc := enc) (C := Try.checked) false ⟨#[], #[.agg #[.int .u32 0, .int .i64 0, .string ByteArray.empty, .int .u32 0], .agg #[.int .u32 0, .int .i64 0, .string ByteArray.empty, .int .u32 0], .agg #[.int .u32 0, .int .i64 0, .string ByteArray.empty, .int .u32 0]], []⟩ 8 (by kernel_rfl) (by kernel_rfl) (by kernel_rfl) (by kernel_rfl)) ?_
  intro W base args ds gs before hval0 hW hcnd _
  have hval : ∀ (j : Nat) t v, Try.f7.params[j]? = some t → args[j]? = some v → Value.okWide Try.prog W .any base t v := hval0
  have hW' := hW
  obtain ⟨p, q, hA0, hV, rfl, hfz, hnd⟩ := hW
  have hA : DataW.TrodAll enc Try.prog W 0 (fun _ => true) true Try.f7.params.toList args.toList ds p := hA0
  rw [Try.params7] at hA hval
  obtain ⟨v0, vs0, d0, ds0, p0, q0, hargs, rfl, rfl, h0, r0⟩ := trodAll_cons hA
  obtain ⟨v1, vs1, d1, ds1, p1, q1, rfl, rfl, rfl, h1, r1⟩ := trodAll_cons r0
  obtain ⟨v2, vs2, d2, ds2, p2, q2, rfl, rfl, rfl, h2, r2⟩ := trodAll_cons r1
  obtain ⟨rfl, rfl, rfl⟩ := trodAll_nil r2
  obtain rfl : args = #[v0, v1, v2] := by cases args; simp_all
  obtain ⟨rfl, rfl⟩ := trodVars_none hV
  obtain ⟨cs0, rfl, sz0⟩ := okWide_struct Try.underlying24 (hval 0 24 v0 rfl rfl)
  have k0 := h0
  have lt0 : ∀ x ∈ p0, x.block < W.heap.size := by obtain ⟨m, hm⟩ := k0; exact DataW.trod_lt m _ _ _ hm
  obtain ⟨a0, w0, rfl⟩ : ∃ q : Pl, PlOk q ∧ cs0 = plCells q := by
    obtain ⟨fuel, hf⟩ := h0
    exact place_of sz0 hf
  obtain ⟨cs1, rfl, sz1⟩ := okWide_struct Try.underlying24 (hval 1 24 v1 rfl rfl)
  have k1 := h1
  have lt1 : ∀ x ∈ p1, x.block < W.heap.size := by obtain ⟨m, hm⟩ := k1; exact DataW.trod_lt m _ _ _ hm
  obtain ⟨a1, w1, rfl⟩ : ∃ q : Pl, PlOk q ∧ cs1 = plCells q := by
    obtain ⟨fuel, hf⟩ := h1
    exact place_of sz1 hf
  obtain ⟨cs2, rfl, sz2⟩ := okWide_struct Try.underlying24 (hval 2 24 v2 rfl rfl)
  have k2 := h2
  have lt2 : ∀ x ∈ p2, x.block < W.heap.size := by obtain ⟨m, hm⟩ := k2; exact DataW.trod_lt m _ _ _ hm
  obtain ⟨a2, w2, rfl⟩ : ∃ q : Pl, PlOk q ∧ cs2 = plCells q := by
    obtain ⟨fuel, hf⟩ := h2
    exact place_of sz2 hf
  clear hA0 hval0
  refine (walk a0 a1 a2 W w0 w1 w2).mono fun e W' ⟨he, bel⟩ => ?_
  subst he
  exact ⟨_, rfl, _, _, _, [], _, [], hW', trodAll_mk1 (shut_bool Try.underlying4 _), (trodAll_cons_mk (Below.trod laidOut (by kernel_rfl) (of_decide_eq_true (by kernel_rfl)) k0 bel lt0) (trodAll_cons_mk (Below.trod laidOut (by kernel_rfl) (of_decide_eq_true (by kernel_rfl)) k1 bel lt1) (trodAll_cons_mk (Below.trod laidOut (by kernel_rfl) (of_decide_eq_true (by kernel_rfl)) k2 bel lt2) trodAll_mk0))), rfl, bel.frame _, fun h => by cases h⟩

theorem over : Rows.placeThreeRow.holds Try.pinned (OpenSpec.ofChange Rows.placeThreeSpec) :=
  OpenClaim.holds_of_wide 7 Try.f7 rfl rfl rfl rfl rfl rfl rfl ⟨rfl, rfl, rfl, rfl, rfl⟩ rfl rfl rfl rfl rfl (by kernel_rfl) Try.func7 (by kernel_rfl)
    (of_decide_eq_true (by kernel_rfl)) (by unfold Func.isWrapper; first | (rw [if_pos (by decide +kernel)]; kernel_rfl) | (rw [if_neg (by decide +kernel)]; exact ⟨rfl, rfl⟩))
    (fun os started H enc _ => lifted os started H enc)

end Go.Proofs.Ytmbiapobibfbaaa.placeThree

namespace Go.Proofs.Ytmbiapobibfbaaa
/-- The statement. -/
theorem placeThree_proved : Rows.PlaceThreeSaid := placeThree.over
#print axioms placeThree_proved
end Go.Proofs.Ytmbiapobibfbaaa
