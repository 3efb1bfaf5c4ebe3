/- Proved: PlaceBack, for every two places, with no condition: it answers true. -/
import Derived.Test.YtmbiapobibfbaaaPLive
import Derived.Test.YtmbiapobibfbaaaKeyMath
import Derived.Test.YtmbiapobibfbaaaPArg
import Derived.Deep.RegionHeld3
import Derived.BigQuiet
import Derived.Deep.QuietTactic
import Derived.WalkSmall
import Derived.ProofKit
import Derived.OpenShut
import Derived.ShutString
import Derived.ChangeOld
import Derived.Below
import Derived.Carry
namespace Go.Proofs.Ytmbiapobibfbaaa.placeBack
open Go.ChangeShapes Go.WideShapes Go.ChangeAt Go.RowKit
open Go.ChangeMaps (open_string shut_string)
set_option linter.unusedVariables false

theorem own : ownKnob Try.prog.godebug = none := by kernel_rfl
theorem laidOut : laidOutB Try.prog = true := by kernel_rfl

set_option maxRecDepth 100000 in
set_option maxHeartbeats 8000000 in
theorem walk (a b : Pl) (w : World) (ha : PlOk a) (hb : PlOk b) : Calls Try.prog 5 #[plV a, plV b] w fun e w' => e = .returned (.bool true) ∧ Below w.heap.size w w' := by
  obtain ⟨w1, hw1⟩ : ∃ w1, w1 = (w.alloc (.cells #[.int .u32 a.ino, .int .i64 a.part, .string a.name, .int .u32 a.chunk] 24)).alloc (.cells #[.int .u32 b.ino, .int .i64 b.part, .string b.name, .int .u32 b.chunk] 24) := ⟨_, rfl⟩
  have hb1 : Below w.heap.size w w1 := by rw [hw1]; exact ((Below.refl _ _).alloc (Nat.le_refl _) _).alloc (by simp) _
  have ha1 : PlAt w1 w.heap.size a := by
    rw [hw1]
    exact (PlAt.laid w a).below ((Below.refl _ _).alloc (Nat.le_refl _) _)
  have hB1 : PlAt w1 (w.heap.size + 1) b := by
    rw [hw1]
    have := PlAt.laid (w.alloc (.cells (plCells a) 24)) b
    have hs : (w.alloc (.cells (plCells a) 24)).heap.size = w.heap.size + 1 := by simp
    rw [hs] at this
    exact this
  have kya : ∀ W, Calls Try.prog 10 #[.agg #[.int .u32 a.ino, .int .i64 a.part, .string a.name, .int .u32 a.chunk]] W fun e w' => e = .returned (.tuple #[.string (keyS a), .int .i64 (plE a)]) ∧ Below W.heap.size W w' := fun W => key_any W a ha
  have kyb : ∀ W, Calls Try.prog 10 #[.agg #[.int .u32 b.ino, .int .i64 b.part, .string b.name, .int .u32 b.chunk]] W fun e w' => e = .returned (.tuple #[.string (keyS b), .int .i64 (plE b)]) ∧ Below W.heap.size W w' := fun W => key_any W b hb
  cases oka : plOk a
  · have ea : plE a = 30 := by unfold plE; rw [oka]; rfl
    rw [ea] at kya
    clear ea oka
    unfold plV
    go_enter Try.func5, Try.ntmps5
    go_wp2_with fail
    rw [← hw1]
    clear hw1
    refine (live_any _).mono ?_
    rintro e w2 ⟨rfl, hb2⟩
    have ha2 := ha1.below hb2
    have hB2 := hB1.below hb2
    have p0 := ha2.c0
    have p1 := ha2.c1
    have p2 := ha2.c2
    have p3 := ha2.c3
    go_wp2_with fail
    refine (kya _).mono ?_
    rintro e w3 ⟨rfl, hb3⟩
    clear p0 p1 p2 p3
    have ha3 := ha2.below hb3
    have hB3 := hB2.below hb3
    have q0 := hB3.c0
    have q1 := hB3.c1
    have q2 := hB3.c2
    have q3 := hB3.c3
    go_wp2_with fail
    refine (kyb _).mono ?_
    rintro e w4 ⟨rfl, hb4⟩
    clear q0 q1 q2 q3
    have ha4 := ha3.below hb4
    have hB4 := hB3.below hb4
    have hb04 : Below w.heap.size w w4 := thenB hb1 (thenB hb2 (thenB hb3 hb4))
    go_wp2
    go_ret
    exact ⟨rfl, hb04⟩
  · have ea : plE a = 0 := by unfold plE; rw [oka]; rfl
    rw [ea] at kya
    cases okb : plOk b
    · have eb : plE b = 30 := by unfold plE; rw [okb]; rfl
      rw [eb] at kyb
      clear ea eb oka okb
      unfold plV
      go_enter Try.func5, Try.ntmps5
      go_wp2_with fail
      rw [← hw1]
      clear hw1
      refine (live_any _).mono ?_
      rintro e w2 ⟨rfl, hb2⟩
      have ha2 := ha1.below hb2
      have hB2 := hB1.below hb2
      have p0 := ha2.c0
      have p1 := ha2.c1
      have p2 := ha2.c2
      have p3 := ha2.c3
      go_wp2_with fail
      refine (kya _).mono ?_
      rintro e w3 ⟨rfl, hb3⟩
      clear p0 p1 p2 p3
      have ha3 := ha2.below hb3
      have hB3 := hB2.below hb3
      have q0 := hB3.c0
      have q1 := hB3.c1
      have q2 := hB3.c2
      have q3 := hB3.c3
      go_wp2_with fail
      refine (kyb _).mono ?_
      rintro e w4 ⟨rfl, hb4⟩
      clear q0 q1 q2 q3
      have ha4 := ha3.below hb4
      have hB4 := hB3.below hb4
      have hb04 : Below w.heap.size w w4 := thenB hb1 (thenB hb2 (thenB hb3 hb4))
      go_wp2
      go_ret
      exact ⟨rfl, hb04⟩
    · have eb : plE b = 0 := by unfold plE; rw [okb]; rfl
      rw [eb] at kyb
      obtain ⟨r1, r2, r3⟩ := read_key a ha oka
      have rda : ∀ W, Calls Try.prog 12 #[.string (keyS a)] W fun e w' => e = .returned (.tuple #[.agg #[.int .u32 a.ino, .int .i64 a.part, .string a.name, .int .u32 a.chunk], .int .i64 0]) ∧ Below W.heap.size W w' := fun W => by
        have := read_any W (keyS a) (by rw [r3]; decide)
        rwa [r1, r2] at this
      have hord := cmpL_key a b ha hb oka okb
      have hls := less_str (keyP a) (keyP b) (keyP_byt a) (keyP_byt b)
      have heqs := eq_str (keyP a) (keyP b) (keyP_byt a) (keyP_byt b)
      rw [hord, ← keyS_yes oka, ← keyS_yes okb] at hls heqs
      have tx := cmpP_ord.three a b
      obtain ⟨x, hx⟩ : ∃ x, cmpP a b = x := ⟨_, rfl⟩
      rw [hx] at hls heqs tx
      have cab : ∀ W, Calls Try.prog 20 #[.agg #[.int .u32 a.ino, .int .i64 a.part, .string a.name, .int .u32 a.chunk], .agg #[.int .u32 b.ino, .int .i64 b.part, .string b.name, .int .u32 b.chunk]] W fun e w' => e = .returned (.int .i64 x) ∧ Below W.heap.size W w' := fun W => by have := compare_any W a b; rwa [hx] at this
      have heq : ∀ W, (binOp .eql 24 (.agg #[.int .u32 a.ino, .int .i64 a.part, .string a.name, .int .u32 a.chunk]) (.agg #[.int .u32 a.ino, .int .i64 a.part, .string a.name, .int .u32 a.chunk])).run Try.prog W = .ok (.bool true) W := fun W => by
        rw [eq_places, (plEq_iff (a := ⟨a.ino, a.part, a.name, a.chunk⟩) (b := ⟨a.ino, a.part, a.name, a.chunk⟩)).2 rfl]
      have hsz : ((keyS a).size : Int) = 14 := by omega
      clear ea eb oka okb r1 r2 r3 hord hx ha hb
      generalize keyS a = ka at *
      generalize keyS b = kb at *
      unfold plV
      rcases tx with rfl | rfl | rfl
      · have hl' : Op.bytesLess ka.toList kb.toList = true := hls
        have he' : (ka.toList == kb.toList) = false := heqs
        have hn' : ¬ ka.toList = kb.toList := by simpa using he'
        clear hls heqs
        go_enter Try.func5, Try.ntmps5
        go_wp2_with fail
        rw [← hw1]
        clear hw1
        refine (live_any _).mono ?_
        rintro e w2 ⟨rfl, hb2⟩
        have ha2 := ha1.below hb2
        have hB2 := hB1.below hb2
        have p0 := ha2.c0
        have p1 := ha2.c1
        have p2 := ha2.c2
        have p3 := ha2.c3
        go_wp2_with fail
        refine (kya _).mono ?_
        rintro e w3 ⟨rfl, hb3⟩
        clear p0 p1 p2 p3
        have ha3 := ha2.below hb3
        have hB3 := hB2.below hb3
        have q0 := hB3.c0
        have q1 := hB3.c1
        have q2 := hB3.c2
        have q3 := hB3.c3
        go_wp2_with fail
        refine (kyb _).mono ?_
        rintro e w4 ⟨rfl, hb4⟩
        clear q0 q1 q2 q3
        have ha4 := ha3.below hb4
        have hB4 := hB3.below hb4
        have hb04 : Below w.heap.size w w4 := thenB hb1 (thenB hb2 (thenB hb3 hb4))
        go_wp2_with fail
        refine (rda _).mono ?_
        rintro e w5 ⟨rfl, hb5⟩
        obtain ⟨w6, hw6⟩ : ∃ w6, w6 = w5.alloc (.cells #[.int .u32 a.ino, .int .i64 a.part, .string a.name, .int .u32 a.chunk] 24) := ⟨_, rfl⟩
        have hb6 : Below w5.heap.size w5 w6 := by rw [hw6]; exact (Below.refl _ _).alloc (Nat.le_refl _) _
        have hr6 : PlAt w6 w5.heap.size a := by rw [hw6]; exact PlAt.laid w5 a
        have ha5 := ha4.below hb5
        have hB5 := hB4.below hb5
        have hne1 : w.heap.size < w5.heap.size := ha5.lt
        have hne2 : w.heap.size + 1 < w5.heap.size := hB5.lt
        have p0 := ha5.c0
        have p1 := ha5.c1
        have p2 := ha5.c2
        have p3 := ha5.c3
        have q0 := hB5.c0
        have q1 := hB5.c1
        have q2 := hB5.c2
        have q3 := hB5.c3
        go_wp2_with fail
        rw [← hw6]
        clear hw6
        refine (cab _).mono ?_
        rintro e w7 ⟨rfl, hb7⟩
        go_wp2
        go_ret
        exact ⟨rfl, thenB hb04 (thenB hb5 (thenB hb6 hb7))⟩
      · have hl' : Op.bytesLess ka.toList kb.toList = false := hls
        have he' : (ka.toList == kb.toList) = true := heqs
        obtain rfl : ka = kb := by
          have h := beq_iff_eq.1 he'
          rw [ByteArray.toList_eq, ByteArray.toList_eq] at h
          obtain ⟨d⟩ := ka
          obtain ⟨d'⟩ := kb
          exact congrArg ByteArray.mk (Array.ext' h)
        clear hls heqs he'
        go_enter Try.func5, Try.ntmps5
        go_wp2_with fail
        rw [← hw1]
        clear hw1
        refine (live_any _).mono ?_
        rintro e w2 ⟨rfl, hb2⟩
        have ha2 := ha1.below hb2
        have hB2 := hB1.below hb2
        have p0 := ha2.c0
        have p1 := ha2.c1
        have p2 := ha2.c2
        have p3 := ha2.c3
        go_wp2_with fail
        refine (kya _).mono ?_
        rintro e w3 ⟨rfl, hb3⟩
        clear p0 p1 p2 p3
        have ha3 := ha2.below hb3
        have hB3 := hB2.below hb3
        have q0 := hB3.c0
        have q1 := hB3.c1
        have q2 := hB3.c2
        have q3 := hB3.c3
        go_wp2_with fail
        refine (kyb _).mono ?_
        rintro e w4 ⟨rfl, hb4⟩
        clear q0 q1 q2 q3
        have ha4 := ha3.below hb4
        have hB4 := hB3.below hb4
        have hb04 : Below w.heap.size w w4 := thenB hb1 (thenB hb2 (thenB hb3 hb4))
        go_wp2_with fail
        refine (rda _).mono ?_
        rintro e w5 ⟨rfl, hb5⟩
        obtain ⟨w6, hw6⟩ : ∃ w6, w6 = w5.alloc (.cells #[.int .u32 a.ino, .int .i64 a.part, .string a.name, .int .u32 a.chunk] 24) := ⟨_, rfl⟩
        have hb6 : Below w5.heap.size w5 w6 := by rw [hw6]; exact (Below.refl _ _).alloc (Nat.le_refl _) _
        have hr6 : PlAt w6 w5.heap.size a := by rw [hw6]; exact PlAt.laid w5 a
        have ha5 := ha4.below hb5
        have hB5 := hB4.below hb5
        have hne1 : w.heap.size < w5.heap.size := ha5.lt
        have hne2 : w.heap.size + 1 < w5.heap.size := hB5.lt
        have p0 := ha5.c0
        have p1 := ha5.c1
        have p2 := ha5.c2
        have p3 := ha5.c3
        have q0 := hB5.c0
        have q1 := hB5.c1
        have q2 := hB5.c2
        have q3 := hB5.c3
        go_wp2_with fail
        rw [← hw6]
        clear hw6
        refine (cab _).mono ?_
        rintro e w7 ⟨rfl, hb7⟩
        go_wp2
        go_ret
        exact ⟨rfl, thenB hb04 (thenB hb5 (thenB hb6 hb7))⟩
      · have hl' : Op.bytesLess ka.toList kb.toList = false := hls
        have he' : (ka.toList == kb.toList) = false := heqs
        have hn' : ¬ ka.toList = kb.toList := by simpa using he'
        clear hls heqs
        go_enter Try.func5, Try.ntmps5
        go_wp2_with fail
        rw [← hw1]
        clear hw1
        refine (live_any _).mono ?_
        rintro e w2 ⟨rfl, hb2⟩
        have ha2 := ha1.below hb2
        have hB2 := hB1.below hb2
        have p0 := ha2.c0
        have p1 := ha2.c1
        have p2 := ha2.c2
        have p3 := ha2.c3
        go_wp2_with fail
        refine (kya _).mono ?_
        rintro e w3 ⟨rfl, hb3⟩
        clear p0 p1 p2 p3
        have ha3 := ha2.below hb3
        have hB3 := hB2.below hb3
        have q0 := hB3.c0
        have q1 := hB3.c1
        have q2 := hB3.c2
        have q3 := hB3.c3
        go_wp2_with fail
        refine (kyb _).mono ?_
        rintro e w4 ⟨rfl, hb4⟩
        clear q0 q1 q2 q3
        have ha4 := ha3.below hb4
        have hB4 := hB3.below hb4
        have hb04 : Below w.heap.size w w4 := thenB hb1 (thenB hb2 (thenB hb3 hb4))
        go_wp2_with fail
        refine (rda _).mono ?_
        rintro e w5 ⟨rfl, hb5⟩
        obtain ⟨w6, hw6⟩ : ∃ w6, w6 = w5.alloc (.cells #[.int .u32 a.ino, .int .i64 a.part, .string a.name, .int .u32 a.chunk] 24) := ⟨_, rfl⟩
        have hb6 : Below w5.heap.size w5 w6 := by rw [hw6]; exact (Below.refl _ _).alloc (Nat.le_refl _) _
        have hr6 : PlAt w6 w5.heap.size a := by rw [hw6]; exact PlAt.laid w5 a
        have ha5 := ha4.below hb5
        have hB5 := hB4.below hb5
        have hne1 : w.heap.size < w5.heap.size := ha5.lt
        have hne2 : w.heap.size + 1 < w5.heap.size := hB5.lt
        have p0 := ha5.c0
        have p1 := ha5.c1
        have p2 := ha5.c2
        have p3 := ha5.c3
        have q0 := hB5.c0
        have q1 := hB5.c1
        have q2 := hB5.c2
        have q3 := hB5.c3
        go_wp2_with fail
        rw [← hw6]
        clear hw6
        refine (cab _).mono ?_
        rintro e w7 ⟨rfl, hb7⟩
        go_wp2
        go_ret
        exact ⟨rfl, thenB hb04 (thenB hb5 (thenB hb6 hb7))⟩

/-! ### The row -/
set_option maxRecDepth 100000 in
theorem lifted (os : Os) (started : os.Started) (H : Type) (enc : TypeId × Value → H) :
    ReturnsInHanded {} Try.checked os 5 .any (Rows.placeBackSpec.pre6 enc Try.prog Try.f5 Rows.placeBackRow.domain false) (Rows.placeBackSpec.post enc Try.prog Try.f5 false true false false) := by
  refine returnsInHanded_of_change (C := Try.checked) own started (by kernel_rfl) Try.func5
    (ChangeSpec.witness6 (enc := enc) (C := Try.checked) false ⟨#[], #[.agg #[.int .u32 0, .int .i64 0, .string ByteArray.empty, .int .u32 0], .agg #[.int .u32 0, .int .i64 0, .string ByteArray.empty, .int .u32 0]], []⟩ 8 (by kernel_rfl) (by kernel_rfl) (by kernel_rfl) (by kernel_rfl)) ?_
  intro W base args ds gs before hval0 hW hcnd _
  have hval : ∀ (j : Nat) t v, Try.f5.params[j]? = some t → args[j]? = some v → Value.okWide Try.prog W .any base t v := hval0
  have hW' := hW
  obtain ⟨p, q, hA0, hV, rfl, hfz, hnd⟩ := hW
  have hA : DataW.TrodAll enc Try.prog W 0 (fun _ => true) true Try.f5.params.toList args.toList ds p := hA0
  rw [Try.params5] at hA hval
  obtain ⟨v0, vs0, d0, ds0, p0, q0, hargs, rfl, rfl, h0, r0⟩ := trodAll_cons hA
  obtain ⟨v1, vs1, d1, ds1, p1, q1, rfl, rfl, rfl, h1, r1⟩ := trodAll_cons r0
  obtain ⟨rfl, rfl, rfl⟩ := trodAll_nil r1
  obtain rfl : args = #[v0, v1] := by cases args; simp_all
  obtain ⟨rfl, rfl⟩ := trodVars_none hV
  obtain ⟨cs0, rfl, sz0⟩ := okWide_struct Try.underlying24 (hval 0 24 v0 rfl rfl)
  have k0 := h0
  have lt0 : ∀ x ∈ p0, x.block < W.heap.size := by obtain ⟨m, hm⟩ := k0; exact DataW.trod_lt m _ _ _ hm
  obtain ⟨a0, w0, rfl⟩ : ∃ q : Pl, PlOk q ∧ cs0 = plCells q := by
    obtain ⟨fuel, hf⟩ := h0
    exact place_of sz0 hf
  obtain ⟨cs1, rfl, sz1⟩ := okWide_struct Try.underlying24 (hval 1 24 v1 rfl rfl)
  have k1 := h1
  have lt1 : ∀ x ∈ p1, x.block < W.heap.size := by obtain ⟨m, hm⟩ := k1; exact DataW.trod_lt m _ _ _ hm
  obtain ⟨a1, w1, rfl⟩ : ∃ q : Pl, PlOk q ∧ cs1 = plCells q := by
    obtain ⟨fuel, hf⟩ := h1
    exact place_of sz1 hf
  clear hA0 hval0
  refine (walk a0 a1 W w0 w1).mono fun e W' ⟨he, bel⟩ => ?_
  subst he
  exact ⟨_, rfl, _, _, _, [], _, [], hW', trodAll_mk1 (shut_bool Try.underlying4 _), (trodAll_cons_mk (Below.trod laidOut (by kernel_rfl) (of_decide_eq_true (by kernel_rfl)) k0 bel lt0) (trodAll_cons_mk (Below.trod laidOut (by kernel_rfl) (of_decide_eq_true (by kernel_rfl)) k1 bel lt1) trodAll_mk0)), rfl, bel.frame _, fun h => by cases h⟩

theorem over : Rows.placeBackRow.holds Try.pinned (OpenSpec.ofChange Rows.placeBackSpec) :=
  OpenClaim.holds_of_wide 5 Try.f5 rfl rfl rfl rfl rfl rfl rfl ⟨rfl, rfl, rfl, rfl, rfl⟩ rfl rfl rfl rfl rfl (by kernel_rfl) Try.func5 (by kernel_rfl)
    (of_decide_eq_true (by kernel_rfl)) (by unfold Func.isWrapper; first | (rw [if_pos (by decide +kernel)]; kernel_rfl) | (rw [if_neg (by decide +kernel)]; exact ⟨rfl, rfl⟩))
    (fun os started H enc _ => lifted os started H enc)

end Go.Proofs.Ytmbiapobibfbaaa.placeBack

namespace Go.Proofs.Ytmbiapobibfbaaa
/-- The statement. -/
theorem placeBack_proved : Rows.PlaceBackSaid := placeBack.over
#print axioms placeBack_proved
end Go.Proofs.Ytmbiapobibfbaaa
