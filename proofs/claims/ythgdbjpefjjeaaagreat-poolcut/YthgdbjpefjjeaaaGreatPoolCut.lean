/- Proved: when the power is off nothing is read or written -/
import Derived.Test.YthgdbjpefjjeaaaGreatMZ2
import Derived.Deep.RegionHeld3
import Derived.BigQuiet
import Derived.Deep.QuietTactic
import Derived.WalkSmall
import Derived.ProofKit
import Derived.OpenShut
import Derived.ShutString
import Derived.ChangeOld
import Derived.Below
import Derived.Carry
import Derived.SizedLaws
namespace Go.Proofs.YthgdbjpefjjeaaaGreat.poolCut
open Go.ChangeShapes Go.WideShapes Go.ChangeAt Go.RowKit
open Go.ChangeMaps (open_string shut_string)
set_option linter.unusedVariables false

theorem own : ownKnob Tryz.prog.godebug = none := by kernel_rfl
theorem laidOut : laidOutB Tryz.prog = true := by kernel_rfl

set_option maxRecDepth 100000 in
set_option maxHeartbeats 8000000 in
theorem walk (x : Option Addr) (len cap : Nat) (os : List PopV) (id0 : Int) (w : World) (ho : PopsAt w x len cap os) (hid : (Lit.int .u32 id0).wf = true) :
    Calls Tryz.prog 6 #[.slice x len cap, .int .u32 id0] w fun e w' => e = .returned (.bool true) ∧ Below w.heap.size w w' := by
  obtain ⟨hol, hlc, hcm, hok, hoc⟩ := id ho
  obtain ⟨hi0, hi1⟩ := bounds_u32 hid
  obtain ⟨I, rfl⟩ : ∃ I : Nat, id0 = (I : Int) := ⟨id0.toNat, by omega⟩
  clear hid hoc
  unfold maxLen at hcm
  go_enter Tryz.func6, Tryz.ntmps6
  go_wp2_with fail
  refine (live_any w).mono ?_
  rintro e w1 ⟨rfl, hb1⟩
  have hz1 := hb1.size
  have k0 := disk_New w1 30 (by omega) (by omega)
  unfold ptr at k0
  go_wp2_with fail
  refine k0.mono ?_
  clear k0
  rintro e w2 ⟨rfl, hd2, hb2, hs2⟩
  have k1 := start_any hd2 hb2 hs2
  unfold ptr at k1
  go_wp2_with fail
  refine k1.mono ?_
  clear k1
  rintro e w3 ⟨a, rfl, hP, hb3, ha, had⟩
  clear hd2 hb2 hs2
  have hB3 : Below w.heap.size w w3 := hb1.trans (hb3.mono hz1)
  have ha' : ∀ k ∈ a.all, w.heap.size ≤ k := fun k hk => Nat.le_trans hz1 (ha k hk)
  clear ha hb3
  have kP := play_any hP x len cap os (hops_in ho hB3 ha')
  have hal := playP_all hP.ok pool0_on os
  have hsh := playP_shape hP.ok os
  generalize playP pool0 os = P4 at *
  unfold ptr at *
  by_cases hmany : 100 < len
  · have hmI : (100 : Int) < len := by omega
    clear hok kP
    go_wp2
    go_ret
    exact ⟨rfl, hB3⟩
  have hmI : ¬ (100 : Int) < len := by omega
  clear hok ho
  go_wp2_with fail
  refine kP.mono ?_
  clear kP
  rintro e w4 ⟨rfl, a4, hP4, hM4⟩
  have hU4 := hM4.under hB3 hB3.size ha'
  have hq4 := hM4.q
  have hd4 : a4.d = w1.heap.size + 2 := hM4.d.trans had
  have kSp := space_any hP4
  unfold ptr at kSp
  rw [hq4] at kSp
  go_wp2_with fail
  refine kSp.mono ?_
  clear kSp
  rintro e w5 ⟨xx, yy, zz, b1, b2, rfl, hsp, hbs⟩
  have hP5 := hP4.below hbs
  have hB5 : Below w.heap.size w w5 := hU4.1.trans (hbs.mono hU4.1.size)
  obtain ⟨xa, xc, rfl⟩ := rowI_slice hsp.t
  obtain ⟨ya, yc, rfl⟩ := rowI_slice hsp.wt
  obtain ⟨za, zc, rfl⟩ := rowI_slice hsp.f
  have kC := disk_Cut_on hP5.disk ⟨#[]⟩ (by decide) hal.2.on
  rw [hd4] at kC
  unfold ptr at kC
  have HL4 : Hid (∀ k ∈ a4.all, k < w4.heap.size) := hP4.lt
  have HSP : Hid _ := hsp
  have HU4 : Hid (∀ k ∈ a4.all, w.heap.size ≤ k) := hU4.2
  clear hsp hP4 hM4 hU4 hP hB3 ha' had
  go_wp2_with fail
  refine kC.mono ?_
  clear kC
  rintro e w6 ⟨rfl, hD6, hS6⟩
  rw [← hd4] at hD6 hS6
  obtain ⟨PC, hP6, hPn, hoff⟩ := after_cut hP5 hD6 hS6
  have hM6 : Moves w5 w6 a4 a4 := Moves.of_sole hS6 (by simp [Ad.all])
  have hU6 := hM6.under hB5 hB5.size HU4.out
  have hwr := wrP_off hoff (leafN_ok 1)
  have hrd := prdE_off hoff (I : Int)
  have hfull := full_len hP6.ok.n
  have hkm := kind_mem hP6.ok.n I
  have hble := fun k (x : Nat) => blocks_le (k := k) (x := x) hP6.ok.n
  rw [hPn] at hwr hrd hfull hkm hble
  clear hD6 hS6 hP5 hoff hPn
  have kN := liveNode w6 1 (by omega) (by omega)
  generalize hT2 : (blocksL P4.now 2).length = T2 at *
  generalize hT3 : (blocksL P4.now 3).length = T3 at *
  generalize hT1 : (blocksL P4.now 1).length = T1 at *
  have HT2 : Hid _ := hT2
  have HT3 : Hid _ := hT3
  have HT1 : Hid _ := hT1
  clear hT1 hT2 hT3
  go_wp2_with fail
  refine kN.mono ?_
  clear kN
  rintro e w7 ⟨p1, q1, p2, q2, p3, q3, rfl, hnd, hbn⟩
  have hP7 := hP6.below hbn
  have kW := pwrite_any hP7 _ _ hnd (leafN_k 1)
  rw [hwr.1, hwr.2.1, hwr.2.2] at kW
  generalize hG : (if firstR P4.now.ks = none then (5 : Int) else 20) = G at *
  have HG : Hid _ := hG
  unfold ptr at kW
  rw [hq4] at kW
  clear hG hnd
  go_wp2_with fail
  refine kW.mono ?_
  clear kW
  rintro e w8 ⟨rfl, hP8, hM8⟩
  have hM68 := (hM6.trans (Moves.of_below hbn)).trans hM8
  have hU8 := hM68.under hB5 hB5.size HU4.out
  have kR := read_any hP8 (I : Int) (by omega) (by omega)
  rw [hrd] at kR
  generalize hH : (if kindOfN P4.now (I : Int) ≤ 1 then (4 : Int) else 20) = H at *
  have HH : Hid _ := hH
  unfold ptr at kR
  rw [hq4] at kR
  clear hH hP6 hP7 hM6 hU6 hM8 hbn
  go_wp2_with fail
  refine kR.mono ?_
  clear kR
  rintro e w9 ⟨u, rfl, hown, hbr⟩
  obtain ⟨r1, r2, r3, rfl, o1, o2, o3⟩ := id hown
  obtain ⟨r1, t1, rfl⟩ := row_slice o1
  obtain ⟨r2, t2, rfl⟩ := row_slice o2
  obtain ⟨r3, t3, rfl⟩ := row_slice o3
  clear hown o1 o2 o3
  generalize (prdN PC (I : Int)).leaf = lf at *
  generalize (prdN PC (I : Int)).pairs.length = m1 at *
  generalize (prdN PC (I : Int)).keys.length = m2 at *
  generalize (prdN PC (I : Int)).kids.length = m3 at *
  have hs := HSP.out
  have hn6 : ∀ {u : Value}, (∀ q, u.ownBlock = some q → w4.heap.size ≤ q) → ∀ q, u.ownBlock = some q → q ∉ a4.all := fun hh q hq hm => by
    have h1 := hh q hq
    have h2 := HL4.out q hm
    omega
  have hzz : w5.heap.size ≤ w8.heap.size := hM68.sole.size
  have og1 := own_ge hs.t
  have og2 := own_ge hs.wt
  have l0 := hs.l0
  have ol1 := own_lt hs.t
  obtain rfl := HT2.out
  obtain rfl := HT3.out
  have hba : Below w9.heap.size w9 (w9.alloc (.cells #[.bool lf, .slice r1 m1 t1, .slice r2 m2 t2, .slice r3 m3 t3] 40)) := (Below.refl _ _).alloc (Nat.le_refl _) _
  have rT := row_below (row_below (row_sole hs.t hM68.sole (hn6 og1)) hbr) hba
  have rW := row_below (row_below (row_sole hs.wt hM68.sole (hn6 (fun q hq => by have := og2 q hq; omega))) hbr) hba
  have hBA : Below w.heap.size w (w9.alloc (.cells #[.bool lf, .slice r1 m1 t1, .slice r2 m2 t2, .slice r3 m3 t3] 40)) := (hU8.1.trans (hbr.mono hU8.1.size)).trans (hba.mono (Nat.le_trans hU8.1.size hbr.size))
  have hz10 := hba.size
  have hz9 := hbr.size
  have hz5 := hbs.size
  have hz4 : w.heap.size ≤ w4.heap.size := by have := HL4.out a4.q (by simp [Ad.all]); have := HU4.out a4.q (by simp [Ad.all]); omega
  have h25 : P4.now.ks.length = 25 := hsh.2
  have n1 : (blocksL P4.now 2).length ≤ 1024 := by omega
  have n2 : (blocksL P4.now 3).length ≤ 1024 := by omega
  have hnone : firstR P4.now.ks = none → (blocksL P4.now 2).length + (blocksL P4.now 3).length = 25 := fun h => by
    have h0 := HT1.out
    rw [free_none h] at h0
    simp at h0
    omega
  clear hba hs HSP
  generalize hL2 : blocksL P4.now 2 = L2 at *
  generalize hL3 : blocksL P4.now 3 = L3 at *
  generalize hWA : w9.alloc (.cells #[.bool lf, .slice r1 m1 t1, .slice r2 m2 t2, .slice r3 m3 t3] 40) = WA at *
  go_wp2_with (at_builtin; refine wpList_append_rows rfl _ _ rfl w4.heap.size b1 _ _ L2 L3 rfl rT rfl rW n1 n2 (by omega) ?_; intro v' w10 happ hSo; obtain ⟨va, vc, rfl⟩ := rowI_slice happ)
  have hxL : ∀ x ∈ L2 ++ L3, x < 1024 := fun x hx => by
    rcases List.mem_append.1 hx with h | h
    · exact hble 2 x (by rw [hL2]; exact h)
    · exact hble 3 x (by rw [hL3]; exact h)
  have hHW : H = wantI I (L2 ++ L3) := by
    rw [← HH.out]
    unfold wantI
    by_cases hc : kindOfN P4.now (I : Int) ≤ 1
    · rw [if_pos hc, if_neg (hkm.1 hc)]
    · rw [if_neg hc, if_pos (Classical.byContradiction fun hn => hc (hkm.2 hn))]
  obtain ⟨S, hS, hSo⟩ := hSo
  have hB10 : Below w.heap.size w w10 := Sole.belowOf hBA hSo hBA.size (fun q hq => by have := og1 q (hS q hq); omega)
  have HHW : Hid (H = wantI I (L2 ++ L3)) := hHW
  have HAP : Hid _ := happ
  have hcap : (L2 ++ L3).length ≤ vc ∧ vc ≤ 9223372036854775807 := by
    rcases happ.2 with ⟨e, h0⟩ | ⟨g, c, cur, e, _, _, g3, g4, _⟩
    · simp only [Value.slice.injEq] at e; omega
    · simp only [Value.slice.injEq] at e; unfold maxLen at g4; omega
  clear hHW happ rT rW hkm hble hL2 hL3 n1 n2 hwr hrd HT2 HT3
  have hn : (L2 ++ L3).length = L2.length + L3.length := List.length_append
  generalize hLL : L2 ++ L3 = LL at *
  clear hLL
  generalize L2.length = T2 at *
  generalize L3.length = T3 at *
  rw [hn] at hcap
  go_loop [17, 80] (fun v t => ∃ j : Nat, j ≤ T2 + T3 ∧ t = .int .i64 j ∧ v = .int .i64 (wantI I (LL.take j))) (fun _ t => T2 + T3 - (Go.RowKit.intOf t).toNat)
  case atStart => exact ⟨0, Nat.zero_le _, rfl, rfl⟩
  case round =>
    obtain ⟨j, hj, rfl, rfl⟩ := hrel
    by_cases hlt : j < T2 + T3
    · have hltI : (j : Int) < (T2 : Int) + (T3 : Int) := by omega
      obtain ⟨y, hy⟩ := at_some hn hlt
      have hyb := hxL y (List.mem_of_getElem? hy)
      have hmd : ((y : Nat) : Int) % 4294967296 = ((y : Nat) : Int) := by omega
      have hmw : IntKind.wrap .u32 ((y : Nat) : Int) = ((y : Nat) : Int) := by simp [IntKind.wrap, IntKind.bits, IntKind.signed]; omega
      have hap := HAP.out
      obtain ⟨g, c, e, _, _, hcell⟩ := natC_at hap (by omega)
      have hc := hcell j y hy
      simp only [Value.slice.injEq] at e
      obtain ⟨rfl, _, rfl⟩ := e
      have hnx := want_next (i := I) hy
      clear hap hcell
      by_cases d : y = I
      · rw [if_pos d] at hnx
        subst d
        go_wp2_with fail
        go_round
        case rel => exact ⟨j + 1, by omega, by go_num, by rw [hnx]⟩
        case measure => simp [Go.RowKit.intOf]; omega
      · rw [if_neg d] at hnx
        have dI : ¬ ((y : Nat) : Int) = ((I : Nat) : Int) := by omega
        go_wp2_with fail
        go_round
        case rel => exact ⟨j + 1, by omega, by go_num, by rw [hnx]⟩
        case measure => simp [Go.RowKit.intOf]; omega
    · have hltI : ¬ (j : Int) < (T2 : Int) + (T3 : Int) := by omega
      rw [List.take_of_length_le (by omega), ← HHW.out]
      by_cases hf : firstR P4.now.ks = none
      · have hG5 : G = 5 := by rw [← HG.out, if_pos hf]
        have h25' := hnone hf
        have hTI : (T2 : Int) + (T3 : Int) = 25 := by omega
        subst hG5
        clear hnone
        go_wp2
        go_ret
        exact ⟨rfl, hB10⟩
      · have hG5 : G = 20 := by rw [← HG.out, if_neg hf]
        subst hG5
        clear hnone
        go_wp2
        go_ret
        exact ⟨rfl, hB10⟩

/-! ### The row -/
set_option maxRecDepth 100000 in
theorem lifted (os : Os) (started : os.Started) (H : Type) (enc : TypeId × Value → H) :
    ReturnsInHanded {} Tryz.checked os 6 .any (Rows.poolCutSpec.pre6 enc Tryz.prog Tryz.f6 Rows.poolCutRow.domain false) (Rows.poolCutSpec.post enc Tryz.prog Tryz.f6 false true false false) := by
  refine returnsInHanded_of_change_sized (C := Tryz.checked) own started (by kernel_rfl) Tryz.func6
    (ChangeSpec.witness6 (enc := enc) (C := Tryz.checked) false ⟨#[], #[.slice none 0 0, .int .u32 0], []⟩ 8 (by kernel_rfl) (by kernel_rfl) (by kernel_rfl) (by kernel_rfl)) ?_
  intro W base args ds gs before hval0 hW hcnd hsz0 _
  have hsz : (DataW.weightsEach Tryz.prog (Tryz.f6.params.toList ++ Rows.poolCutSpec.plain.varTypes Tryz.prog) (ds ++ gs)).all (· ≤ reachBytes) = true := hsz0
  clear hsz0
  have hval : ∀ (j : Nat) t v, Tryz.f6.params[j]? = some t → args[j]? = some v → Value.okWide Tryz.prog W .any base t v := hval0
  have hW' := hW
  obtain ⟨p, q, hA0, hV, rfl, hfz, hnd⟩ := hW
  have hA : DataW.TrodAll enc Tryz.prog W 0 (fun _ => true) true Tryz.f6.params.toList args.toList ds p := hA0
  rw [Tryz.params6] at hA hval hsz
  obtain ⟨v0, vs0, d0, ds0, p0, q0, hargs, rfl, rfl, h0, r0⟩ := trodAll_cons hA
  obtain ⟨v1, vs1, d1, ds1, p1, q1, rfl, rfl, rfl, h1, r1⟩ := trodAll_cons r0
  obtain ⟨rfl, rfl, rfl⟩ := trodAll_nil r1
  obtain rfl : args = #[v0, v1] := by cases args; simp_all
  obtain ⟨rfl, rfl⟩ := trodVars_none hV
  obtain ⟨a0, len0, cap0, rfl⟩ := okWide_slice Tryz.underlying23 (hval 0 23 v0 rfl rfl)
  have k0 := h0
  have lt0 : ∀ x ∈ p0, x.block < W.heap.size := by obtain ⟨m, hm⟩ := k0; exact DataW.trod_lt m _ _ _ hm
  obtain ⟨o0, w0⟩ : ∃ os, PopsAt W a0 len0 cap0 os := by
    obtain ⟨fuel, hf⟩ := h0
    exact popsAt_of hf (fun n hn => of_decide_eq_true (List.all_eq_true.1 hsz n (DataW.weights_mem_each (j := 0) rfl rfl n hn)))
  obtain ⟨a1, rfl, rfl, rfl, w1⟩ := open_int Tryz.underlying35 (hval 1 35 v1 rfl rfl) h1
  clear hA0 hval0
  refine (walk a0 len0 cap0 o0 a1 W w0 w1).mono fun e W' ⟨he, bel⟩ => ?_
  subst he
  exact ⟨_, rfl, _, _, _, [], _, [], hW', trodAll_mk1 (shut_bool Tryz.underlying4 _), (trodAll_cons_mk (Below.trod laidOut (by kernel_rfl) (of_decide_eq_true (by kernel_rfl)) k0 bel lt0) (trodAll_cons_mk (shut_int Tryz.underlying35 w1) trodAll_mk0)), rfl, bel.frame _, fun h => by cases h⟩

theorem over : Rows.poolCutRow.holds Tryz.pinned (OpenSpec.ofChange Rows.poolCutSpec) :=
  OpenClaim.holds_of_wide 6 Tryz.f6 rfl rfl rfl rfl rfl rfl rfl ⟨rfl, rfl, rfl, rfl, rfl⟩ rfl rfl rfl rfl rfl (by kernel_rfl) Tryz.func6 (by kernel_rfl)
    (of_decide_eq_true (by kernel_rfl)) (by unfold Func.isWrapper; first | (rw [if_pos (by decide +kernel)]; kernel_rfl) | (rw [if_neg (by decide +kernel)]; exact ⟨rfl, rfl⟩))
    (fun os started H enc _ => lifted os started H enc)

end Go.Proofs.YthgdbjpefjjeaaaGreat.poolCut

namespace Go.Proofs.YthgdbjpefjjeaaaGreat
/-- The statement. -/
theorem poolCut_proved : Rows.PoolCutSaid := poolCut.over
#print axioms poolCut_proved
end Go.Proofs.YthgdbjpefjjeaaaGreat
