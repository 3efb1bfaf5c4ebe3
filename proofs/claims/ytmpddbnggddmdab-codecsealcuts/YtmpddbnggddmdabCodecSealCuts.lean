/- Proved: the Go law CodecSealCuts (what was sealed and cut is told to be short, or is what was sealed of what is left) returns true for every byte slice and every cut; no condition beside the form's own. -/
import Derived.Test.YtmpddbnggddmdabSums
import Derived.WalkKit
import Derived.Deep.QuietTactic
import Derived.BigQuiet
import Derived.Deep.RegionHeld3
import Derived.WalkSmall
import Derived.ProofKit
import Derived.OpenShut
import Derived.ShutString
import Derived.ChangeOld
import Derived.Below
namespace Go.Proofs.Ytmpddbnggddmdab.codecSealCuts
open Go.ChangeShapes Go.WideShapes Go.ChangeAt Go.RowKit
open Go.ChangeMaps (open_string shut_string)
set_option linter.unusedVariables false

theorem own : ownKnob Try.prog.godebug = none := by kernel_rfl
theorem laidOut : laidOutB Try.prog = true := by kernel_rfl

/-! ### The walk -/
set_option maxHeartbeats 4000000 in
theorem walk (a0 : Option Addr) (len0 cap0 : Nat) (z0 : List Int) (a1 : Int) (w : World) (w0 : IsRow .u8 w a0 len0 cap0 z0) (w1 : (Lit.int .i64 a1).wf = true) :
    Calls Try.prog 5 #[.slice a0 len0 cap0, .int .i64 a1] w fun e w' => e = .returned (.bool true) ∧ Below w.heap.size w w' := by
  have hr0 : Rd w (.slice a0 len0 cap0) (z0.take len0) := rd_row w0
  have hy0 : Byt (z0.take len0) := byt_row w0
  obtain ⟨xs, hxs⟩ : ∃ xs, xs = z0.take len0 := ⟨_, rfl⟩
  rw [← hxs] at hr0 hy0
  obtain ⟨b1, b1'⟩ := bounds_i64 w1
  clear w0 hxs w1
  generalize Value.slice a0 len0 cap0 = v at *
  have hl := hr0.len
  by_cases hbig : (100000 : Int) < xs.length
  · go_enter Try.func5, Try.ntmps5
    go_wp2_with fail
    refine (sums_any _).mono ?_
    rintro e w1 ⟨rfl, hb1⟩
    go_wp2
    go_ret
    exact ⟨rfl, hb1⟩
  · have hsm : ¬ (100000 : Int) < xs.length := hbig
    go_enter Try.func5, Try.ntmps5
    go_wp2_with fail
    refine (sums_any _).mono ?_
    rintro e w1 ⟨rfl, hb1⟩
    go_wp2_with fail
    refine (seal_any _ _ _ (hr0.below hb1) hy0 (by omega)).mono ?_
    rintro e w2 ⟨y, rfl, ho2, hb2⟩
    have hb02 := hb1.trans (hb2.mono hb1.size)
    have hys := seal_byt hy0
    have hlen : (xs ++ sealB xs).length ≤ 100004 := by rw [List.length_append, sealB_length]; omega
    have hpos : 0 < (xs ++ sealB xs).length := by rw [List.length_append, sealB_length]; omega
    generalize xs ++ sealB xs = ys at *
    clear hl hr0 hy0 hbig hsm hb1 hb2
    obtain ⟨gy, capy, rfl, hcy, hmy⟩ := ho2.open hpos
    have hr2 := ho2.rd
    generalize hn : ys.length = n at *
    unfold maxLen at hmy
    obtain ⟨t, ht, ht1, ht2⟩ : ∃ t : Int, a1.tmod ((n : Int) + 1) = t ∧ -(n : Int) ≤ t ∧ t ≤ n := ⟨_, rfl, by have := Int.tmod_lt_of_pos (-a1) (show (0 : Int) < (n : Int) + 1 by omega); rw [Int.neg_tmod] at this; omega, by have := Int.tmod_lt_of_pos a1 (show (0 : Int) < (n : Int) + 1 by omega); omega⟩
    obtain ⟨c, hc, hc2⟩ : ∃ c : Nat, (t + n + 1).tmod ((n : Int) + 1) = (c : Int) ∧ c ≤ n := by
      have h1 := Int.tmod_nonneg ((n : Int) + 1) (show 0 ≤ t + n + 1 by omega)
      have h2 := Int.tmod_lt_of_pos (t + n + 1) (show (0 : Int) < (n : Int) + 1 by omega)
      exact ⟨((t + n + 1).tmod ((n : Int) + 1)).toNat, by omega, by omega⟩
    have hne : ((n : Int) + 1 == 0) = false := beq_eq_false_iff_ne.2 (by omega)
    have hne' : ¬ ((n : Int) + 1 = 0) := by omega
    have hcI : (c : Int) ≤ n := by omega
    have hcc : (c : Int) ≤ capy := by omega
    have HN : Hid (ys.length = n) := hn
    clear hn
    have hrc := hr2.cut c hc2
    have hyc : Byt (ys.take c) := hys.take c
    have hlc : (ys.take c).length = c := rd_length hrc
    clear hys hr2 ho2
    generalize ys.take c = xc at *
    go_wp2_with fail
    refine (unseal_any _ _ _ hrc hyc (by omega)).mono ?_
    rintro e w3 ⟨z, rfl, ho3, hb3⟩
    have hb03 := hb02.trans (hb3.mono hb02.size)
    have hrc3 := hrc.below hb3
    clear hb02 hb3 hrc ht hc hmy ht1 ht2
    by_cases h4 : c < 4
    · have e1 : unE xc = 10 := by unfold unE; rw [if_pos (by omega)]
      rw [e1]
      have h4I : (c : Int) < 4 := by omega
      have h4d : decide ((c : Int) < 4) = true := decide_eq_true h4I
      go_wp2_with fail
      go_quiet (fail)
      go_wp2
      go_ret
      exact ⟨rfl, below_drewN hb03 _⟩
    · have h4I : ¬ (c : Int) < 4 := by omega
      have h4d : decide ((c : Int) < 4) = false := decide_eq_false h4I
      by_cases hq : tailB xc = sealB (bodyB xc)
      · have e1 : unE xc = 0 := by unfold unE; rw [if_neg (by omega), if_pos hq]
        have e2 : unB xc = bodyB xc := by unfold unB; rw [e1]; rfl
        have e3 : bodyB xc ++ sealB (bodyB xc) = xc := by rw [← hq]; exact body_tail xc
        rw [e2] at ho3
        rw [e1]
        have hrz : ∀ W, Below w3.heap.size w3 W → Rd W z (bodyB xc) := fun W hW => (ho3.below hW).rd
        have hcd : ∀ W, Below w3.heap.size w3 W → (convert 24 9 (.slice (some ⟨gy, 0, none⟩) c capy)).run Try.prog W = .ok (.string (strOfNums xc)) W := fun W hW => (hrc3.below hW).conv
        have hyb : Byt (bodyB xc) := hyc.take _
        have hlb : (bodyB xc).length ≤ 140737488351232 := by unfold bodyB; rw [List.length_take]; omega
        have E3 : Hid _ := e3
        clear e1 e2 e3 hq
        go_wp2_with fail
        refine wp_region_noPanic ?_
        go_region_held (fun W => Below w3.heap.size w3 W) (first | assumption | exact (Below.refl _ _).drew | exact keep2 (by assumption) (by assumption))
          (first | (go_at_call 13; refine (seal_any _ _ _ (hrz _ (by assumption)) hyb hlb).mono ?_; rintro e w4 ⟨u4, rfl, ho4, hb4⟩; have k5 := ho4.rd.conv; rw [E3.out] at k5))
        refine NoPanic.normal ?_
        have hb34 : Below w3.heap.size w3 w4 := by assumption
        go_wp2
        go_ret
        exact ⟨by simp, hb03.trans (hb34.mono hb03.size)⟩
      · have e1 : unE xc = 12 := by unfold unE; rw [if_neg (by omega), if_neg hq]
        rw [e1]
        go_wp2_with fail
        go_quiet (fail)
        go_wp2
        go_ret
        exact ⟨rfl, below_drewN hb03 _⟩

/-! ### The row -/
set_option maxRecDepth 100000 in
theorem lifted (os : Os) (started : os.Started) (H : Type) (enc : TypeId × Value → H) :
    ReturnsInHanded {} Try.checked os 5 .any (Rows.codecSealCutsSpec.pre6 enc Try.prog Try.f5 Rows.codecSealCutsRow.domain false) (Rows.codecSealCutsSpec.post enc Try.prog Try.f5 false true false false) := by
  refine returnsInHanded_of_change (C := Try.checked) own started (by kernel_rfl) Try.func5
    (ChangeSpec.witness6 (enc := enc) (C := Try.checked) false ⟨#[], #[.slice none 0 0, .int .i64 0], []⟩ 8 (by kernel_rfl) (by kernel_rfl) (by kernel_rfl) (by kernel_rfl)) ?_
  intro W base args ds gs before hval0 hW hcnd _
  have hval : ∀ (j : Nat) t v, Try.f5.params[j]? = some t → args[j]? = some v → Value.okWide Try.prog W .any base t v := hval0
  have hW' := hW
  obtain ⟨p, q, hA0, hV, rfl, hfz, hnd⟩ := hW
  have hA : DataW.TrodAll enc Try.prog W 0 (fun _ => true) true Try.f5.params.toList args.toList ds p := hA0
  rw [Try.params5] at hA hval
  obtain ⟨v0, vs0, d0, ds0, p0, q0, hargs, rfl, rfl, h0, r0⟩ := trodAll_cons hA
  obtain ⟨v1, vs1, d1, ds1, p1, q1, rfl, rfl, rfl, h1, r1⟩ := trodAll_cons r0
  obtain ⟨rfl, rfl, rfl⟩ := trodAll_nil r1
  obtain rfl : args = #[v0, v1] := by cases args; simp_all
  obtain ⟨rfl, rfl⟩ := trodVars_none hV
  obtain ⟨a0, len0, cap0, rfl⟩ := okWide_slice Try.underlying24 (hval 0 24 v0 rfl rfl)
  have k0 := h0
  have lt0 : ∀ x ∈ p0, x.block < W.heap.size := by obtain ⟨m, hm⟩ := k0; exact DataW.trod_lt m _ _ _ hm
  obtain ⟨z0, w0⟩ : ∃ zs, IsRow .u8 W a0 len0 cap0 zs := by
    obtain ⟨fuel, hf⟩ := h0
    rcases open_ints Try.underlying24 Try.underlying5 (by kernel_rfl) hf with ⟨hcs, _⟩ | ⟨x, l, c, zs, hcs, _, hl, hm, hz, _, hcell, hwz⟩
    · simp [Value.cells] at hcs
      obtain ⟨rfl, rfl, rfl⟩ := hcs
      exact ⟨[], .inl ⟨rfl, rfl, rfl, rfl⟩⟩
    · simp [Value.cells] at hcs
      obtain ⟨rfl, rfl, rfl⟩ := hcs
      exact ⟨zs, .inr ⟨_, rfl, hl, hm, by simpa using hz, hcell, hwz⟩⟩
  obtain ⟨a1, rfl, rfl, rfl, w1⟩ := open_int Try.underlying3 (hval 1 3 v1 rfl rfl) h1
  clear hA0 hval0
  refine (walk a0 len0 cap0 z0 a1 W w0 w1).mono fun e W' ⟨he, bel⟩ => ?_
  subst he
  exact ⟨_, rfl, _, _, _, [], _, [], hW', trodAll_mk1 (shut_bool Try.underlying4 _), (trodAll_cons_mk (Below.trod laidOut (by kernel_rfl) (of_decide_eq_true (by kernel_rfl)) k0 bel lt0) (trodAll_cons_mk (shut_int Try.underlying3 w1) trodAll_mk0)), rfl, bel.frame _, fun h => by cases h⟩

theorem over : Rows.codecSealCutsRow.holds Try.pinned (OpenSpec.ofChange Rows.codecSealCutsSpec) :=
  OpenClaim.holds_of_wide 5 Try.f5 rfl rfl rfl rfl rfl rfl rfl ⟨rfl, rfl, rfl, rfl, rfl⟩ rfl rfl rfl rfl rfl (by kernel_rfl) Try.func5 (by kernel_rfl)
    (of_decide_eq_true (by kernel_rfl)) (by unfold Func.isWrapper; first | (rw [if_pos (by decide +kernel)]; kernel_rfl) | (rw [if_neg (by decide +kernel)]; exact ⟨rfl, rfl⟩))
    (fun os started H enc _ => lifted os started H enc)

end Go.Proofs.Ytmpddbnggddmdab.codecSealCuts

namespace Go.Proofs.Ytmpddbnggddmdab
/-- The statement. -/
theorem codecSealCuts_proved : Rows.CodecSealCutsSaid := codecSealCuts.over
#print axioms codecSealCuts_proved
end Go.Proofs.Ytmpddbnggddmdab
