/- Proved: WalMakes: where a log may be made, and found; for every input, without a condition. -/
import Derived.Test.YtmchpckjlmmfmaaGreatMW1
import Derived.Test.YtmchpckjlmmfmaaGreatMW11
import Derived.Deep.RegionHeld3
import Derived.BigQuiet
import Derived.Deep.QuietTactic
import Derived.WalkSmall
import Derived.ProofKit
import Derived.OpenShut
import Derived.ShutString
import Derived.ChangeOld
import Derived.Below
import Derived.Carry
namespace Go.Proofs.YtmchpckjlmmfmaaGreat.walMakes
open Go.ChangeShapes Go.WideShapes Go.ChangeAt Go.RowKit
open Go.ChangeMaps (open_string shut_string)
set_option linter.unusedVariables false
set_option linter.unusedSimpArgs false

theorem own : ownKnob Tryz.prog.godebug = none := by kernel_rfl
theorem laidOut : laidOutB Tryz.prog = true := by kernel_rfl

theorem mod_small (x m : Int) (hm : 0 < m) (hm2 : m ≤ 1000) (h1 : -9223372036854775808 ≤ x) (h2 : x ≤ 9223372036854775807) : ∃ r : Nat, (wrap64 (x.tmod m + m)).tmod m = (r : Int) ∧ (r : Int) < m := by
  obtain ⟨y, hy⟩ : ∃ y, x.tmod m = y := ⟨_, rfl⟩
  have hy1 : y < m := by rw [← hy]; exact Int.tmod_lt_of_pos _ hm
  have hy2 : -m < y := by rw [← hy]; have := Int.lt_tmod_of_pos x hm; omega
  have e1 : wrap64 (y + m) = y + m := by unfold wrap64; omega
  rw [hy, e1]
  have h3 : 0 ≤ (y + m).tmod m := Int.tmod_nonneg _ (by omega)
  have h4 : (y + m).tmod m < m := Int.tmod_lt_of_pos _ hm
  exact ⟨((y + m).tmod m).toNat, by omega, by omega⟩

theorem disk_off {n : Int} : (cutSt (freshSt n) ⟨#[]⟩).off = true ∧ (cutSt (freshSt n) ⟨#[]⟩).blocks = n := ⟨rfl, by rw [cut_blocks]; rfl⟩

set_option maxRecDepth 100000 in
set_option maxHeartbeats 8000000 in
theorem walk (blocks f c : Int) (off : Bool) (w : World) (hb : (Lit.int .i64 blocks).wf = true) (hf : (Lit.int .i64 f).wf = true) (hc : (Lit.int .i64 c).wf = true) :
    Calls Tryz.prog 3 #[.int .i64 blocks, .int .i64 f, .int .i64 c, .bool off] w fun e w' => e = .returned (.bool true) ∧ Below w.heap.size w w' := by
  obtain ⟨hb0, hb1⟩ := bounds_i64 hb
  obtain ⟨hf0, hf1⟩ := bounds_i64 hf
  obtain ⟨hc0, hc1⟩ := bounds_i64 hc
  clear hb hf hc
  obtain ⟨r, hr, hr1⟩ := mod_small blocks 100 (by decide) (by decide) hb0 hb1
  obtain ⟨n, hn⟩ : ∃ n : Int, wrap64 (1 + (r : Int)) = n := ⟨_, rfl⟩
  have hn1 : 1 ≤ n ∧ n ≤ 100 := by rw [← hn]; unfold wrap64; omega
  obtain ⟨hn1, hn2⟩ := hn1
  have HR : Hid _ := hr
  have HN : Hid (wrap64 (1 + (r : Int)) = n) := hn
  clear hr hn hr1 hb0 hb1
  have cl := live_any w
  go_enter Tryz.func3, Tryz.ntmps3
  go_wp2_with fail
  refine cl.mono ?_
  rintro e0 w0 ⟨rfl, b0⟩
  clear cl
  have s0 := b0.size
  have c1 := disk_New w0 n hn1 (by omega)
  unfold ptr at c1
  go_wp2_with fail
  (try rw [HR.out])
  (try rw [HN.out])
  refine c1.mono ?_
  rintro f1 w1 ⟨rfl, d1, b1, s1⟩
  clear c1
  have hB1 : Hid (Below w.heap.size w w1) := b0.trans (b1.mono s0)
  clear b0 b1
  cases off
  · have hblk : (freshSt n).blocks = n := rfl
    by_cases hbad : f < 0 ∨ c < 4 ∨ n - f < c
    · have hE : ringE (freshSt n) f c = 1 := by unfold ringE; rw [hblk, if_pos hbad]
      have cm := make_arg d1 f c hf0 hf1 hc0 hc1 (by rw [hE]; decide)
      rw [hE] at cm
      unfold ptr at cm
      go_wp2_with fail
      refine cm.mono ?_
      rintro e2 w2 ⟨rfl, b2⟩
      clear cm
      have d2 := d1.below b2
      have s2 := b2.size
      have hB2 : Hid (Below w.heap.size w w2) := hB1.out.trans (b2.mono (by omega))
      have cn := make_nil w2 0 60
      go_wp2_with fail
      refine cn.mono ?_
      rintro e3 w3 ⟨rfl, b3⟩
      clear cn
      have d3 := d2.below b3
      have s3 := b3.size
      have hB3 : Hid (Below w.heap.size w w3) := hB2.out.trans (b3.mono (by omega))
      have co := open_arg d3 f c 0 hf0 hf1 hc0 hc1 (by rw [hE]; decide)
      rw [hE] at co
      unfold ptr at co
      clear d2 d3 b2 b3 hB2
      by_cases h1 : f < 0
      · go_wp2_with fail
        refine co.mono ?_
        rintro e4 w4 ⟨rfl, b4⟩
        clear co
        have hB4 : Hid (Below w.heap.size w w4) := hB3.out.trans (b4.mono (by omega))
        clear b4
        go_wp2_with fail
        go_ret
        exact ⟨rfl, hB4.out⟩
      by_cases h2 : c < 4
      · go_wp2_with fail
        refine co.mono ?_
        rintro e4 w4 ⟨rfl, b4⟩
        clear co
        have hB4 : Hid (Below w.heap.size w w4) := hB3.out.trans (b4.mono (by omega))
        clear b4
        go_wp2_with fail
        go_ret
        exact ⟨rfl, hB4.out⟩
      by_cases h3 : n < c
      · go_wp2_with fail
        refine co.mono ?_
        rintro e4 w4 ⟨rfl, b4⟩
        clear co
        have hB4 : Hid (Below w.heap.size w w4) := hB3.out.trans (b4.mono (by omega))
        clear b4
        go_wp2_with fail
        go_ret
        exact ⟨rfl, hB4.out⟩
      have h4 : n - c < f := by omega
      have hw : wrap64 (n - c) = n - c := by unfold wrap64; omega
      have h4' : wrap64 (n - c) < f := by omega
      go_wp2_with fail
      refine co.mono ?_
      rintro e4 w4 ⟨rfl, b4⟩
      clear co
      have hB4 : Hid (Below w.heap.size w w4) := hB3.out.trans (b4.mono (by omega))
      clear b4
      go_wp2_with fail
      go_ret
      exact ⟨rfl, hB4.out⟩
    · have h1 : ¬ f < 0 := by omega
      have h2 : ¬ c < 4 := by omega
      have h3 : ¬ n < c := by omega
      have hw : wrap64 (n - c) = n - c := by unfold wrap64; omega
      have h4 : ¬ n - c < f := by omega
      have h4' : ¬ wrap64 (n - c) < f := by omega
      obtain ⟨N, rfl⟩ : ∃ N : Nat, c = (N : Int) := ⟨c.toNat, by omega⟩
      have cm := make_v (B := w.heap.size) (X := []) d1 rfl rfl f N (by omega) (by omega) (by omega) (by rw [hblk]; omega) (by omega) (by omega) (by omega) (by omega) (fun k hk => by cases hk)
      unfold ptr ptrW at cm
      go_wp2_with fail
      refine cm.mono ?_
      rintro e2 w2 ⟨k2, q, rfl, q2, l2⟩
      clear cm
      have s2 := k2.size
      have hB2 : Hid (Below w.heap.size w w2) := hB1.out.trans (k2.below (by omega))
      have cn := make_nil w2 0 60
      go_wp2_with fail
      refine cn.mono ?_
      rintro e3 w3 ⟨rfl, b3⟩
      clear cn
      have l3 := l2.below b3 [] (fun k hk => by cases hk)
      have s3 := b3.size
      have hB3 : Hid (Below w.heap.size w w3) := hB2.out.trans (b3.mono (by omega))
      have co := open_v l3 (by decide)
      rw [show fromR 0 [] = 0 from rfl] at co
      unfold ptr ptrW at co
      clear l2 l3 k2 b3 hB2 d1
      go_wp2_with fail
      refine co.mono ?_
      rintro e4 w4 ⟨k4, _, q', rv, rfl, hq', l4, r4⟩
      clear co
      have hB4 : Hid (Below w.heap.size w w4) := hB3.out.trans (k4.below (by omega))
      obtain ⟨a, cap, S, rfl, z1, z2, _, _⟩ := recs_own r4
      rw [show ([] : List Rc).length = 0 from rfl]
      have cx := next_v l4
      unfold ptrW at cx
      clear l4 r4 k4
      go_wp2_with fail
      refine cx.mono ?_
      rintro e5 w5 ⟨rfl, rfl⟩
      clear cx
      go_wp2_with fail
      go_ret
      exact ⟨rfl, hB4.out⟩
  · have cc := disk_Cut_on d1 ⟨#[]⟩ (by decide) rfl
    unfold ptr at cc
    go_wp2_with fail
    refine cc.mono ?_
    rintro e5 w5 ⟨rfl, d5, S5⟩
    clear cc
    have s5 := S5.size
    have hB5 : Hid (Below w.heap.size w w5) := S5.belowOf hB1.out (by omega) (fun k hk => by simp only [List.mem_cons, List.mem_nil_iff, or_false] at hk; omega)
    have hblk : (cutSt (freshSt n) ⟨#[]⟩).blocks = n := disk_off.2
    clear d1 S5 hB1
    by_cases hbad : f < 0 ∨ c < 4 ∨ n - f < c
    · have hE : ringE (cutSt (freshSt n) ⟨#[]⟩) f c = 1 := by unfold ringE; rw [hblk, if_pos hbad]
      have cm := make_arg d5 f c hf0 hf1 hc0 hc1 (by rw [hE]; decide)
      rw [hE] at cm
      unfold ptr at cm
      go_wp2_with fail
      refine cm.mono ?_
      rintro e2 w2 ⟨rfl, b2⟩
      clear cm
      have d2 := d5.below b2
      have s2 := b2.size
      have hB2 : Hid (Below w.heap.size w w2) := hB5.out.trans (b2.mono (by omega))
      have cn := make_nil w2 0 60
      go_wp2_with fail
      refine cn.mono ?_
      rintro e3 w3 ⟨rfl, b3⟩
      clear cn
      have d3 := d2.below b3
      have s3 := b3.size
      have hB3 : Hid (Below w.heap.size w w3) := hB2.out.trans (b3.mono (by omega))
      have co := open_arg d3 f c 0 hf0 hf1 hc0 hc1 (by rw [hE]; decide)
      rw [hE] at co
      unfold ptr at co
      clear d2 d3 b2 b3 hB2
      by_cases h1 : f < 0
      · go_wp2_with fail
        refine co.mono ?_
        rintro e4 w4 ⟨rfl, b4⟩
        clear co
        have hB4 : Hid (Below w.heap.size w w4) := hB3.out.trans (b4.mono (by omega))
        clear b4
        go_wp2_with fail
        go_ret
        exact ⟨rfl, hB4.out⟩
      by_cases h2 : c < 4
      · go_wp2_with fail
        refine co.mono ?_
        rintro e4 w4 ⟨rfl, b4⟩
        clear co
        have hB4 : Hid (Below w.heap.size w w4) := hB3.out.trans (b4.mono (by omega))
        clear b4
        go_wp2_with fail
        go_ret
        exact ⟨rfl, hB4.out⟩
      by_cases h3 : n < c
      · go_wp2_with fail
        refine co.mono ?_
        rintro e4 w4 ⟨rfl, b4⟩
        clear co
        have hB4 : Hid (Below w.heap.size w w4) := hB3.out.trans (b4.mono (by omega))
        clear b4
        go_wp2_with fail
        go_ret
        exact ⟨rfl, hB4.out⟩
      have h4 : n - c < f := by omega
      have hw : wrap64 (n - c) = n - c := by unfold wrap64; omega
      have h4' : wrap64 (n - c) < f := by omega
      go_wp2_with fail
      refine co.mono ?_
      rintro e4 w4 ⟨rfl, b4⟩
      clear co
      have hB4 : Hid (Below w.heap.size w w4) := hB3.out.trans (b4.mono (by omega))
      clear b4
      go_wp2_with fail
      go_ret
      exact ⟨rfl, hB4.out⟩
    · have hE : ringE (cutSt (freshSt n) ⟨#[]⟩) f c = 20 := by unfold ringE; rw [hblk, if_neg hbad]; rfl
      have h1 : ¬ f < 0 := by omega
      have h2 : ¬ c < 4 := by omega
      have h3 : ¬ n < c := by omega
      have hw : wrap64 (n - c) = n - c := by unfold wrap64; omega
      have h4 : ¬ n - c < f := by omega
      have h4' : ¬ wrap64 (n - c) < f := by omega
      have cm := make_arg d5 f c hf0 hf1 hc0 hc1 (by rw [hE]; decide)
      rw [hE] at cm
      unfold ptr at cm
      go_wp2_with fail
      refine cm.mono ?_
      rintro e2 w2 ⟨rfl, b2⟩
      clear cm
      have d2 := d5.below b2
      have s2 := b2.size
      have hB2 : Hid (Below w.heap.size w w2) := hB5.out.trans (b2.mono (by omega))
      have cn := make_nil w2 0 60
      go_wp2_with fail
      refine cn.mono ?_
      rintro e3 w3 ⟨rfl, b3⟩
      clear cn
      have d3 := d2.below b3
      have s3 := b3.size
      have hB3 : Hid (Below w.heap.size w w3) := hB2.out.trans (b3.mono (by omega))
      have co := open_arg d3 f c 0 hf0 hf1 hc0 hc1 (by rw [hE]; decide)
      rw [hE] at co
      unfold ptr at co
      clear d2 d3 b2 b3 hB2
      go_wp2_with fail
      refine co.mono ?_
      rintro e4 w4 ⟨rfl, b4⟩
      clear co
      have hB4 : Hid (Below w.heap.size w w4) := hB3.out.trans (b4.mono (by omega))
      clear b4
      go_wp2_with fail
      go_ret
      exact ⟨rfl, hB4.out⟩

/-! ### The row -/
set_option maxRecDepth 100000 in
theorem lifted (os : Os) (started : os.Started) (H : Type) (enc : TypeId × Value → H) :
    ReturnsInHanded {} Tryz.checked os 3 .any (Rows.walMakesSpec.pre6 enc Tryz.prog Tryz.f3 Rows.walMakesRow.domain false) (Rows.walMakesSpec.post enc Tryz.prog Tryz.f3 false true false false) := by
  refine returnsInHanded_of_change (C := Tryz.checked) own started (by kernel_rfl) Tryz.func3
    (ChangeSpec.witness6 (enc := enc) (C := Tryz.checked) false ⟨#[], #[.int .i64 0, .int .i64 0, .int .i64 0, .bool false], []⟩ 8 (by kernel_rfl) (by kernel_rfl) (by kernel_rfl) (by kernel_rfl)) ?_
  intro W base args ds gs before hval0 hW hcnd _
  have hval : ∀ (j : Nat) t v, Tryz.f3.params[j]? = some t → args[j]? = some v → Value.okWide Tryz.prog W .any base t v := hval0
  have hW' := hW
  obtain ⟨p, q, hA0, hV, rfl, hfz, hnd⟩ := hW
  have hA : DataW.TrodAll enc Tryz.prog W 0 (fun _ => true) true Tryz.f3.params.toList args.toList ds p := hA0
  rw [Tryz.params3] at hA hval
  obtain ⟨v0, vs0, d0, ds0, p0, q0, hargs, rfl, rfl, h0, r0⟩ := trodAll_cons hA
  obtain ⟨v1, vs1, d1, ds1, p1, q1, rfl, rfl, rfl, h1, r1⟩ := trodAll_cons r0
  obtain ⟨v2, vs2, d2, ds2, p2, q2, rfl, rfl, rfl, h2, r2⟩ := trodAll_cons r1
  obtain ⟨v3, vs3, d3, ds3, p3, q3, rfl, rfl, rfl, h3, r3⟩ := trodAll_cons r2
  obtain ⟨rfl, rfl, rfl⟩ := trodAll_nil r3
  obtain rfl : args = #[v0, v1, v2, v3] := by cases args; simp_all
  obtain ⟨rfl, rfl⟩ := trodVars_none hV
  obtain ⟨a0, rfl, rfl, rfl, w0⟩ := open_int Tryz.underlying3 (hval 0 3 v0 rfl rfl) h0
  obtain ⟨a1, rfl, rfl, rfl, w1⟩ := open_int Tryz.underlying3 (hval 1 3 v1 rfl rfl) h1
  obtain ⟨a2, rfl, rfl, rfl, w2⟩ := open_int Tryz.underlying3 (hval 2 3 v2 rfl rfl) h2
  obtain ⟨a3, rfl, rfl, rfl⟩ := open_bool Tryz.underlying4 (hval 3 4 v3 rfl rfl) h3
  clear hA0 hval0
  refine (walk a0 a1 a2 a3 W w0 w1 w2).mono fun e W' ⟨he, bel⟩ => ?_
  subst he
  exact ⟨_, rfl, _, _, _, [], _, [], hW', trodAll_mk1 (shut_bool Tryz.underlying4 _), (trodAll_cons_mk (shut_int Tryz.underlying3 w0) (trodAll_cons_mk (shut_int Tryz.underlying3 w1) (trodAll_cons_mk (shut_int Tryz.underlying3 w2) (trodAll_cons_mk (shut_bool Tryz.underlying4 a3) trodAll_mk0)))), rfl, bel.frame _, fun h => by cases h⟩

theorem over : Rows.walMakesRow.holds Tryz.pinned (OpenSpec.ofChange Rows.walMakesSpec) :=
  OpenClaim.holds_of_wide 3 Tryz.f3 rfl rfl rfl rfl rfl rfl rfl ⟨rfl, rfl, rfl, rfl, rfl⟩ rfl rfl rfl rfl rfl (by kernel_rfl) Tryz.func3 (by kernel_rfl)
    (of_decide_eq_true (by kernel_rfl)) (by unfold Func.isWrapper; first | (rw [if_pos (by decide +kernel)]; kernel_rfl) | (rw [if_neg (by decide +kernel)]; exact ⟨rfl, rfl⟩))
    (fun os started H enc _ => lifted os started H enc)

end Go.Proofs.YtmchpckjlmmfmaaGreat.walMakes

namespace Go.Proofs.YtmchpckjlmmfmaaGreat
/-- The statement. -/
theorem walMakes_proved : Rows.WalMakesSaid := walMakes.over
#print axioms walMakes_proved
end Go.Proofs.YtmchpckjlmmfmaaGreat
