/- Proved: for every three lists of texts: none stands below itself, no two below each other, and what stands below what stands below stands below; no condition. -/
import Derived.Test.YtfnoppnmilmglaaPhLive
import Derived.Test.YtfnoppnmilmglaaPhArg
import Derived.Deep.RegionHeld3
import Derived.BigQuiet
import Derived.Deep.QuietTactic
import Derived.WalkSmall
import Derived.ProofKit
import Derived.OpenShut
import Derived.ShutString
import Derived.ChangeOld
import Derived.Below
import Derived.Carry
import Derived.Deep.CutRange
import Derived.Deep.CutBlock
import Derived.Deep.LoopGhost
namespace Go.Proofs.Ytfnoppnmilmglaa.pathUnder
open Go.ChangeShapes Go.WideShapes Go.ChangeAt Go.RowKit
open Go.ChangeMaps (open_string shut_string)
set_option linter.unusedVariables false
set_option linter.unusedSimpArgs false

theorem own : ownKnob Try.prog.godebug = none := by kernel_rfl
theorem laidOut : laidOutB Try.prog = true := by kernel_rfl

/-- The three rows. -/
structure Three (a : Option Addr) (n c : Nat) (l : List ByteArray) (b : Option Addr) (m d : Nat) (r : List ByteArray) (f : Option Addr) (k g : Nat) (t : List ByteArray) (W : World) : Prop where
  a : RdS W a n c l
  b : RdS W b m d r
  c : RdS W f k g t
theorem Three.below {a : Option Addr} {n c : Nat} {l : List ByteArray} {b : Option Addr} {m d : Nat} {r : List ByteArray} {f : Option Addr} {k g : Nat} {t : List ByteArray} {W W' : World} (h : Three a n c l b m d r f k g t W) (hb : Below W.heap.size W W') : Three a n c l b m d r f k g t W' :=
  ⟨h.a.below hb, h.b.below hb, h.c.below hb⟩

set_option maxRecDepth 100000 in
set_option maxHeartbeats 8000000 in
theorem walk (a : Option Addr) (n c : Nat) (l : List ByteArray) (b : Option Addr) (m d : Nat) (r : List ByteArray) (f : Option Addr) (k g : Nat) (t : List ByteArray) (w : World) (hl : RdS w a n c l) (hn : n ≤ 17592186043904) (hr : RdS w b m d r) (hm : m ≤ 17592186043904) (ht : RdS w f k g t) (hk : k ≤ 17592186043904) :
    Calls Try.prog 6 #[.slice a n c, .slice b m d, .slice f k g] w fun e w' => e = .returned (.bool true) ∧ Below w.heap.size w w' := by
  have HL : Hid (Three a n c l b m d r f k g t w) := ⟨hl, hr, ht⟩
  clear hl hr ht
  go_enter Try.func6, Try.ntmps6
  go_wp2_with fail
  refine (live_any _).mono ?_
  rintro e w1 ⟨rfl, hb1⟩
  have B1 : Hid (Below w.heap.size w w1) := hb1
  have L1 : Hid (Three a n c l b m d r f k g t w1) := HL.out.below hb1
  clear hb1
  by_cases hbig : (n : Int) + (m : Int) + (k : Int) > 1000
  · go_wp2
    go_ret
    exact ⟨rfl, B1.out⟩
  have C : Hid (∀ W, Three a n c l b m d r f k g t W → (Calls Try.prog 16 #[.slice a n c, .slice a n c] W fun e w' => e = .returned (.bool false) ∧ Below W.heap.size W w') ∧ (Calls Try.prog 16 #[.slice a n c, .slice b m d] W fun e w' => e = .returned (.bool (underB l r)) ∧ Below W.heap.size W w') ∧ (Calls Try.prog 16 #[.slice b m d, .slice a n c] W fun e w' => e = .returned (.bool (underB r l)) ∧ Below W.heap.size W w') ∧ (Calls Try.prog 16 #[.slice b m d, .slice f k g] W fun e w' => e = .returned (.bool (underB r t)) ∧ Below W.heap.size W w') ∧ (Calls Try.prog 16 #[.slice a n c, .slice f k g] W fun e w' => e = .returned (.bool (underB l t)) ∧ Below W.heap.size W w')) := fun W h => by
    have h0 := punder_any a n c l h.a.1 a n c l h.a.1 (by omega)
    rw [under_self] at h0
    exact ⟨h0, punder_any a n c l h.a.1 b m d r h.b.1 (by omega), punder_any b m d r h.b.1 a n c l h.a.1 (by omega), punder_any b m d r h.b.1 f k g t h.c.1 (by omega), punder_any a n c l h.a.1 f k g t h.c.1 (by omega)⟩
  cases hab : underB l r with
  | false =>
    rw [hab] at C
    have c2 := (C.out w1 L1.out).1
    go_wp2_with fail
    refine c2.mono ?_
    rintro e w2 ⟨rfl, hb2⟩
    have B2 : Hid (Below w.heap.size w w2) := thenB B1.out hb2
    have L2 : Hid (Three a n c l b m d r f k g t w2) := L1.out.below hb2
    clear hb2 c2
    have c3 := (C.out w2 L2.out).2.1
    go_wp2_with fail
    refine c3.mono ?_
    rintro e w3 ⟨rfl, hb3⟩
    have B3 : Hid (Below w.heap.size w w3) := thenB B2.out hb3
    have L3 : Hid (Three a n c l b m d r f k g t w3) := L2.out.below hb3
    clear hb3 c3
    have c4 := (C.out w3 L3.out).2.1
    go_wp2_with fail
    refine c4.mono ?_
    rintro e w4 ⟨rfl, hb4⟩
    have B4 : Hid (Below w.heap.size w w4) := thenB B3.out hb4
    have L4 : Hid (Three a n c l b m d r f k g t w4) := L3.out.below hb4
    clear hb4 c4
    go_wp2
    go_ret
    exact ⟨rfl, B4.out⟩
  | true =>
    have hba := under_asym hab
    rw [hab, hba] at C
    cases hbc : underB r t with
    | false =>
      rw [hbc] at C
      have c2 := (C.out w1 L1.out).1
      go_wp2_with fail
      refine c2.mono ?_
      rintro e w2 ⟨rfl, hb2⟩
      have B2 : Hid (Below w.heap.size w w2) := thenB B1.out hb2
      have L2 : Hid (Three a n c l b m d r f k g t w2) := L1.out.below hb2
      clear hb2 c2
      have c3 := (C.out w2 L2.out).2.1
      go_wp2_with fail
      refine c3.mono ?_
      rintro e w3 ⟨rfl, hb3⟩
      have B3 : Hid (Below w.heap.size w w3) := thenB B2.out hb3
      have L3 : Hid (Three a n c l b m d r f k g t w3) := L2.out.below hb3
      clear hb3 c3
      have c4 := (C.out w3 L3.out).2.2.1
      go_wp2_with fail
      refine c4.mono ?_
      rintro e w4 ⟨rfl, hb4⟩
      have B4 : Hid (Below w.heap.size w w4) := thenB B3.out hb4
      have L4 : Hid (Three a n c l b m d r f k g t w4) := L3.out.below hb4
      clear hb4 c4
      have c5 := (C.out w4 L4.out).2.1
      go_wp2_with fail
      refine c5.mono ?_
      rintro e w5 ⟨rfl, hb5⟩
      have B5 : Hid (Below w.heap.size w w5) := thenB B4.out hb5
      have L5 : Hid (Three a n c l b m d r f k g t w5) := L4.out.below hb5
      clear hb5 c5
      have c6 := (C.out w5 L5.out).2.2.2.1
      go_wp2_with fail
      refine c6.mono ?_
      rintro e w6 ⟨rfl, hb6⟩
      have B6 : Hid (Below w.heap.size w w6) := thenB B5.out hb6
      have L6 : Hid (Three a n c l b m d r f k g t w6) := L5.out.below hb6
      clear hb6 c6
      go_wp2
      go_ret
      exact ⟨rfl, B6.out⟩
    | true =>
      have hac := under_trans hab hbc
      rw [hbc, hac] at C
      have c2 := (C.out w1 L1.out).1
      go_wp2_with fail
      refine c2.mono ?_
      rintro e w2 ⟨rfl, hb2⟩
      have B2 : Hid (Below w.heap.size w w2) := thenB B1.out hb2
      have L2 : Hid (Three a n c l b m d r f k g t w2) := L1.out.below hb2
      clear hb2 c2
      have c3 := (C.out w2 L2.out).2.1
      go_wp2_with fail
      refine c3.mono ?_
      rintro e w3 ⟨rfl, hb3⟩
      have B3 : Hid (Below w.heap.size w w3) := thenB B2.out hb3
      have L3 : Hid (Three a n c l b m d r f k g t w3) := L2.out.below hb3
      clear hb3 c3
      have c4 := (C.out w3 L3.out).2.2.1
      go_wp2_with fail
      refine c4.mono ?_
      rintro e w4 ⟨rfl, hb4⟩
      have B4 : Hid (Below w.heap.size w w4) := thenB B3.out hb4
      have L4 : Hid (Three a n c l b m d r f k g t w4) := L3.out.below hb4
      clear hb4 c4
      have c5 := (C.out w4 L4.out).2.1
      go_wp2_with fail
      refine c5.mono ?_
      rintro e w5 ⟨rfl, hb5⟩
      have B5 : Hid (Below w.heap.size w w5) := thenB B4.out hb5
      have L5 : Hid (Three a n c l b m d r f k g t w5) := L4.out.below hb5
      clear hb5 c5
      have c6 := (C.out w5 L5.out).2.2.2.1
      go_wp2_with fail
      refine c6.mono ?_
      rintro e w6 ⟨rfl, hb6⟩
      have B6 : Hid (Below w.heap.size w w6) := thenB B5.out hb6
      have L6 : Hid (Three a n c l b m d r f k g t w6) := L5.out.below hb6
      clear hb6 c6
      have c7 := (C.out w6 L6.out).2.2.2.2
      go_wp2_with fail
      refine c7.mono ?_
      rintro e w7 ⟨rfl, hb7⟩
      have B7 : Hid (Below w.heap.size w w7) := thenB B6.out hb7
      have L7 : Hid (Three a n c l b m d r f k g t w7) := L6.out.below hb7
      clear hb7 c7
      go_wp2
      go_ret
      exact ⟨rfl, B7.out⟩

/-! ### The row -/
set_option maxRecDepth 100000 in
theorem lifted (os : Os) (started : os.Started) (H : Type) (enc : TypeId × Value → H) :
    ReturnsInHanded {} Try.checked os 6 .any (Rows.pathUnderSpec.pre6 enc Try.prog Try.f6 Rows.pathUnderRow.domain false) (Rows.pathUnderSpec.post enc Try.prog Try.f6 false true false false) := by
  refine returnsInHanded_of_change_sized (C := Try.checked) own started (by kernel_rfl) Try.func6
    (ChangeSpec.witness6 (enc := enc) (C := Try.checked) false ⟨#[], #[.slice none 0 0, .slice none 0 0, .slice none 0 0], []⟩ 8 (by kernel_rfl) (by kernel_rfl) (by kernel_rfl) (by kernel_rfl)) ?_
  intro W base args ds gs before hval0 hW hcnd hsz0 _
  have hsz : (DataW.weightsEach Try.prog (Try.f6.params.toList ++ Rows.pathUnderSpec.plain.varTypes Try.prog) (ds ++ gs)).all (· ≤ reachBytes) = true := hsz0
  clear hsz0
  have hval : ∀ (j : Nat) t v, Try.f6.params[j]? = some t → args[j]? = some v → Value.okWide Try.prog W .any base t v := hval0
  have hW' := hW
  obtain ⟨p, q, hA0, hV, rfl, hfz, hnd⟩ := hW
  have hA : DataW.TrodAll enc Try.prog W 0 (fun _ => true) true Try.f6.params.toList args.toList ds p := hA0
  rw [Try.params6] at hA hval hsz
  obtain ⟨v0, vs0, d0, ds0, p0, q0, hargs, rfl, rfl, h0, r0⟩ := trodAll_cons hA
  obtain ⟨v1, vs1, d1, ds1, p1, q1, rfl, rfl, rfl, h1, r1⟩ := trodAll_cons r0
  obtain ⟨v2, vs2, d2, ds2, p2, q2, rfl, rfl, rfl, h2, r2⟩ := trodAll_cons r1
  obtain ⟨rfl, rfl, rfl⟩ := trodAll_nil r2
  obtain rfl : args = #[v0, v1, v2] := by cases args; simp_all
  obtain ⟨rfl, rfl⟩ := trodVars_none hV
  obtain ⟨a0, len0, cap0, rfl⟩ := okWide_slice Try.underlying23 (hval 0 23 v0 rfl rfl)
  have k0 := h0
  have lt0 : ∀ x ∈ p0, x.block < W.heap.size := by obtain ⟨m, hm⟩ := k0; exact DataW.trod_lt m _ _ _ hm
  obtain ⟨o0, w0, ws0⟩ : ∃ os, RdS W a0 len0 cap0 os ∧ len0 ≤ 17592186043904 := by
    obtain ⟨fuel, hf⟩ := h0
    obtain ⟨os, hos⟩ := strs_of hf
    exact ⟨os, hos, strs_sized hf hsz (j := 0) rfl rfl⟩
  obtain ⟨a1, len1, cap1, rfl⟩ := okWide_slice Try.underlying23 (hval 1 23 v1 rfl rfl)
  have k1 := h1
  have lt1 : ∀ x ∈ p1, x.block < W.heap.size := by obtain ⟨m, hm⟩ := k1; exact DataW.trod_lt m _ _ _ hm
  obtain ⟨o1, w1, ws1⟩ : ∃ os, RdS W a1 len1 cap1 os ∧ len1 ≤ 17592186043904 := by
    obtain ⟨fuel, hf⟩ := h1
    obtain ⟨os, hos⟩ := strs_of hf
    exact ⟨os, hos, strs_sized hf hsz (j := 1) rfl rfl⟩
  obtain ⟨a2, len2, cap2, rfl⟩ := okWide_slice Try.underlying23 (hval 2 23 v2 rfl rfl)
  have k2 := h2
  have lt2 : ∀ x ∈ p2, x.block < W.heap.size := by obtain ⟨m, hm⟩ := k2; exact DataW.trod_lt m _ _ _ hm
  obtain ⟨o2, w2, ws2⟩ : ∃ os, RdS W a2 len2 cap2 os ∧ len2 ≤ 17592186043904 := by
    obtain ⟨fuel, hf⟩ := h2
    obtain ⟨os, hos⟩ := strs_of hf
    exact ⟨os, hos, strs_sized hf hsz (j := 2) rfl rfl⟩
  clear hA0 hval0
  refine (walk a0 len0 cap0 o0 a1 len1 cap1 o1 a2 len2 cap2 o2 W w0 ws0 w1 ws1 w2 ws2).mono fun e W' ⟨he, bel⟩ => ?_
  subst he
  exact ⟨_, rfl, _, _, _, [], _, [], hW', trodAll_mk1 (shut_bool Try.underlying4 _), (trodAll_cons_mk (Below.trod laidOut (by kernel_rfl) (of_decide_eq_true (by kernel_rfl)) k0 bel lt0) (trodAll_cons_mk (Below.trod laidOut (by kernel_rfl) (of_decide_eq_true (by kernel_rfl)) k1 bel lt1) (trodAll_cons_mk (Below.trod laidOut (by kernel_rfl) (of_decide_eq_true (by kernel_rfl)) k2 bel lt2) trodAll_mk0))), rfl, bel.frame _, fun h => by cases h⟩

theorem over : Rows.pathUnderRow.holds Try.pinned (OpenSpec.ofChange Rows.pathUnderSpec) :=
  OpenClaim.holds_of_wide 6 Try.f6 rfl rfl rfl rfl rfl rfl rfl ⟨rfl, rfl, rfl, rfl, rfl⟩ rfl rfl rfl rfl rfl (by kernel_rfl) Try.func6 (by kernel_rfl)
    (of_decide_eq_true (by kernel_rfl)) (by unfold Func.isWrapper; first | (rw [if_pos (by decide +kernel)]; kernel_rfl) | (rw [if_neg (by decide +kernel)]; exact ⟨rfl, rfl⟩))
    (fun os started H enc _ => lifted os started H enc)

end Go.Proofs.Ytfnoppnmilmglaa.pathUnder

namespace Go.Proofs.Ytfnoppnmilmglaa
/-- The statement. -/
theorem pathUnder_proved : Rows.PathUnderSaid := pathUnder.over
#print axioms pathUnder_proved
end Go.Proofs.Ytfnoppnmilmglaa
