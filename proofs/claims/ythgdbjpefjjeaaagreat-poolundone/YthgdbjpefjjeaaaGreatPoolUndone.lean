/- Proved: behind Undo all is as it was behind the last Settle -/
import Derived.Test.YthgdbjpefjjeaaaGreatMZ2
import Derived.Deep.RegionHeld3
import Derived.BigQuiet
import Derived.Deep.QuietTactic
import Derived.WalkSmall
import Derived.ProofKit
import Derived.OpenShut
import Derived.ShutString
import Derived.ChangeOld
import Derived.Below
import Derived.Carry
import Derived.SizedLaws
namespace Go.Proofs.YthgdbjpefjjeaaaGreat.poolUndone
open Go.ChangeShapes Go.WideShapes Go.ChangeAt Go.RowKit
open Go.ChangeMaps (open_string shut_string)
set_option linter.unusedVariables false

theorem own : ownKnob Tryz.prog.godebug = none := by kernel_rfl
theorem laidOut : laidOutB Tryz.prog = true := by kernel_rfl

set_option maxRecDepth 100000 in
set_option maxHeartbeats 8000000 in
theorem walk (x0 : Option Addr) (len0 cap0 : Nat) (os0 : List PopV) (x1 : Option Addr) (len1 cap1 : Nat) (os1 : List PopV) (w : World) (ho0 : PopsAt w x0 len0 cap0 os0) (ho1 : PopsAt w x1 len1 cap1 os1) :
    Calls Tryz.prog 5 #[.slice x0 len0 cap0, .slice x1 len1 cap1] w fun e w' => e = .returned (.bool true) ∧ Below w.heap.size w w' := by
  obtain ⟨hol0, hlc0, hcm0, hok0, hoc0⟩ := id ho0
  obtain ⟨hol1, hlc1, hcm1, hok1, hoc1⟩ := id ho1
  unfold maxLen at hcm0 hcm1
  go_enter Tryz.func5, Tryz.ntmps5
  go_wp2_with fail
  refine (live_any w).mono ?_
  rintro e w1 ⟨rfl, hb1⟩
  have hz1 := hb1.size
  have k0 := disk_New w1 30 (by omega) (by omega)
  unfold ptr at k0
  go_wp2_with fail
  refine k0.mono ?_
  clear k0
  rintro e w2 ⟨rfl, hd2, hb2, hs2⟩
  have k1 := start_any hd2 hb2 hs2
  unfold ptr at k1
  go_wp2_with fail
  refine k1.mono ?_
  clear k1
  rintro e w3 ⟨a, rfl, hP, hb3, ha, _⟩
  clear hd2 hb2 hs2
  have hB3 : Below w.heap.size w w3 := hb1.trans (hb3.mono hz1)
  have ha' : ∀ k ∈ a.all, w.heap.size ≤ k := fun k hk => Nat.le_trans hz1 (ha k hk)
  clear ha hb3
  have kP := play_any hP x0 len0 cap0 os0 (hops_in ho0 hB3 ha')
  have hal := playP_all hP.ok pool0_on os0
  generalize playP pool0 os0 = P4 at *
  unfold ptr at *
  by_cases hmany : (100 : Int) < wrap64 ((len0 : Int) + (len1 : Int))
  · clear hoc0 hoc1 hok0 hok1 kP
    go_wp2
    go_ret
    exact ⟨rfl, hB3⟩
  go_wp2_with fail
  refine kP.mono ?_
  clear kP
  rintro e w4 ⟨rfl, a4, hP4, hM4⟩
  have hU4 := hM4.under hB3 hB3.size ha'
  have hq4 := hM4.q
  have kS := settle_any hP4
  unfold ptr at kS
  rw [hq4] at kS
  go_wp2_with fail
  refine kS.mono ?_
  clear kS
  rintro e w5 ⟨rfl, a5, hP5, hM5⟩
  have hU5 := hM5.under hU4.1 hU4.1.size hU4.2
  have hq5 : a5.q = a.q := hM5.q.trans hq4
  have kSp := space_any hP5
  unfold ptr at kSp
  rw [hq5] at kSp
  go_wp2_with fail
  refine kSp.mono ?_
  clear kSp
  rintro e w6 ⟨xx, yy, zz, b1, b2, rfl, hsp, hbs⟩
  have hP6 := hP5.below hbs
  have hB6 : Below w.heap.size w w6 := hU5.1.trans (hbs.mono hU5.1.size)
  try dsimp only at hsp
  obtain ⟨xa, xc, rfl⟩ := rowI_slice hsp.t
  obtain ⟨ya, yc, rfl⟩ := rowI_slice hsp.wt
  obtain ⟨za, zc, rfl⟩ := rowI_slice hsp.f
  have HSP : Hid _ := hsp
  have H5 : Hid (∀ k ∈ a5.all, k < w5.heap.size) := hP5.lt
  have hba5 := hU5.2
  clear hsp hP5 hM5 hU5 hP4 hM4 hU4 hP hB3 ha' hbs
  generalize hR2 : (blocksL P4.now 2).length = R2 at *
  generalize hR3 : (blocksL P4.now 3).length = R3 at *
  generalize hR1 : (blocksL P4.now 1).length = R1 at *
  go_wp2_with fail
  go_loopw [66] (fun t wr => ∃ (k : Nat) (b : Ad) (P : Pu), k ≤ len1 ∧ t = .int .i64 k ∧ Hid (PuAt wr b P) ∧ P.st = P4.now ∧ DOn P.d ∧ b.q = a.q ∧ Hid (Moves w6 wr a5 b) ∧ Below w.heap.size w wr ∧ ∀ k ∈ b.all, w.heap.size ≤ k) (fun t _ => len1 - (Go.RowKit.intOf t).toNat)
  case atStart => exact ⟨0, a5, _, Nat.zero_le _, rfl, hP6, rfl, hal.2, hq5, Moves.refl _ _, hB6, hba5⟩
  case round =>
    obtain ⟨k, b, P, hk, rfl, HP, hst, hon, hbq, HM, hbr, hba⟩ := hrel
    clear hP6 hB6 hba5
    by_cases hlt : k < len1
    · have hltI : (k : Int) < len1 := by omega
      obtain ⟨g, off, rfl, hgl, hat⟩ := hoc1 (by omega)
      obtain ⟨o, ho'⟩ := at_some hol1 hlt
      have hA := hat k hlt
      rw [show os1.getD k pop0 = o by rw [List.getD_eq_getElem?_getD, ho']; rfl] at hA
      have hoo := hok1 o (List.mem_of_getElem? ho')
      have hin0 := hA.inn
      obtain ⟨c0, c1, c2, c3, c4, c5, c6, c7, hin⟩ := hA.same (hbr.block g hgl) (hA.inn.below hbr)
      clear hat hA hoc1 ho'
      have HB := (Below.refl wr.heap.size wr).alloc (Nat.le_refl _) (.cells o.cells 42)
      have hP1 := HP.out.below HB
      have hB1 : Below w.heap.size w (wr.alloc (.cells o.cells 42)) := hbr.trans (HB.mono hbr.size)
      have HB2 := (Below.refl (wr.alloc (.cells o.cells 42)).heap.size (wr.alloc (.cells o.cells 42))).alloc (Nat.le_refl _) (.cells o.cells 42)
      have kPl := play_any (hP1.below HB2) _ 1 1 [o] (one_pop hP1 hoo hin0 hB1 hba)
      have hB2 := hB1.trans (HB2.mono hB1.size)
      have hs1 : (wr.alloc (.cells o.cells 42)).heap.size = wr.heap.size + 1 := by simp
      rw [hs1] at kPl
      clear hs1
      obtain ⟨a3, k3, a5', k5, a6, k6, a7, k7, e3, e5, e6, e7⟩ := hin.slices
      have HOK : Hid (PopOk o) := hoo
      have hpd := playP_all hP1.ok hon [o]
      clear hin hin0 hoo
      unfold PopV.cells at *
      rw [e3] at c3 kPl HB HB2 hP1 hB1 hB2
      rw [e5] at c5 kPl HB HB2 hP1 hB1 hB2
      rw [e6] at c6 kPl HB HB2 hP1 hB1 hB2
      rw [e7] at c7 kPl HB HB2 hP1 hB1 hB2
      generalize hlf : o.nd.leaf = lf at *
      generalize hn5 : o.nd.pairs.length = n5 at *
      generalize hn6 : o.nd.keys.length = n6 at *
      generalize hn7 : o.nd.kids.length = n7 at *
      generalize hn3 : o.f3.length = n3 at *
      unfold ptr at kPl
      rw [hbq] at kPl
      have HMA := (HM.out.trans (Moves.of_below HB)).trans (Moves.of_below HB2)
      have hst1 : o.f0 ≠ 3 → o.f0 ≠ 5 → (playP P [o]).st = P4.now := fun h3 h5 => (stepP_st P o h3 h5).trans hst
      generalize playP P [o] = PN at *
      have hBk : Below w.heap.size w (wr.alloc (.cells #[.int .i64 o.f0, .int .u32 o.f1, .bool o.f2, .slice a3 n3 k3, .bool lf, .slice a5' n5 k5, .slice a6 n6 k6, .slice a7 n7 k7] 42)) := hB1
      by_cases d3 : o.f0 = 3
      · simp only [d3] at c0 kPl HB HB2 hP1 hB1 hB2
        have hMB := HM.out.trans (Moves.of_below HB)
        clear kPl
        go_wp2_with fail
        go_roundw
        case rel => exact ⟨k + 1, b, P, by omega, by go_num, hP1, hst, hon, hbq, hMB, hB1, hba⟩
        case measure => simp [Go.RowKit.intOf]; omega
      · by_cases d4 : o.f0 = 4
        · simp only [d4] at c0 kPl HB HB2 hP1 hB1 hB2
          have hMB := HM.out.trans (Moves.of_below HB)
          clear kPl
          go_wp2_with fail
          go_roundw
          case rel => exact ⟨k + 1, b, P, by omega, by go_num, hP1, hst, hon, hbq, hMB, hB1, hba⟩
          case measure => simp [Go.RowKit.intOf]; omega
        · by_cases d5 : o.f0 = 5
          · simp only [d5] at c0 kPl HB HB2 hP1 hB1 hB2
            have hMB := HM.out.trans (Moves.of_below HB)
            clear kPl
            go_wp2_with fail
            go_roundw
            case rel => exact ⟨k + 1, b, P, by omega, by go_num, hP1, hst, hon, hbq, hMB, hB1, hba⟩
            case measure => simp [Go.RowKit.intOf]; omega
          · have hst2 := hst1 d3 d5
            clear hst1
            generalize hf0 : o.f0 = f0 at *
            have x3 : (f0 != 3) = true := by simp [d3]
            have x4 : (f0 != 4) = true := by simp [d4]
            have x5 : (f0 != 5) = true := by simp [d5]
            have z3 : (f0 == 3) = false := by simp [d3]
            have z4 : (f0 == 4) = false := by simp [d4]
            have z5 : (f0 == 5) = false := by simp [d5]
            go_wp2_with fail
            refine kPl.mono ?_
            clear kPl
            rintro e v3 ⟨rfl, b', hP3, hM3⟩
            have hU := hM3.under hB2 hB2.size hba
            have hMB := HMA.trans hM3
            go_wp2_with fail
            go_roundw
            case rel => exact ⟨k + 1, b', PN, by omega, by go_num, hP3, hst2, hpd.2, hM3.q.trans hbq, hMB, hU.1, hU.2⟩
            case measure => simp [Go.RowKit.intOf]; omega
    · obtain rfl : k = len1 := by omega
      have hltI : ¬ (k : Int) < k := by omega
      clear hoc1 hok1
      have kU := undo_any HP.out
      unfold ptr at kU
      rw [hbq, hst] at kU
      go_wp2_with fail
      refine kU.mono ?_
      clear kU
      rintro e w7 ⟨rfl, b7, hP7, hM7⟩
      have hU7 := hM7.under hbr hbr.size hba
      have hq7 : b7.q = a.q := hM7.q.trans hbq
      have hM67 := HM.out.trans hM7
      have kSp := space_any hP7
      unfold ptr at kSp
      rw [hq7] at kSp
      go_wp2_with fail
      refine kSp.mono ?_
      clear kSp
      rintro e w8 ⟨x', y', z', d1, d2, rfl, hsp, hbs⟩
      try dsimp only at hsp
      have hs := HSP.out
      have hn6 : ∀ {u : Value}, (∀ q, u.ownBlock = some q → w5.heap.size ≤ q) → ∀ q, u.ownBlock = some q → q ∉ a5.all := fun hh q hq hm => by
        have h1 := hh q hq
        have h2 := H5.out q hm
        omega
      have sz7 : w6.heap.size ≤ w7.heap.size := hM67.sole.size
      have og1 := own_ge hs.t
      have og2 := own_ge hs.wt
      have og3 := own_ge hs.f
      have l0 := hs.l0
      have l1 := hs.l1
      have ol1 := own_lt hs.t
      have ol2 := own_lt hs.wt
      have ol3 := own_lt hs.f
      have rT := row_below (row_sole hs.t hM67.sole (hn6 og1)) hbs
      have rW := row_below (row_sole hs.wt hM67.sole (hn6 (fun q hq => by have := og2 q hq; omega))) hbs
      have rF := row_below (row_sole hs.f hM67.sole (hn6 (fun q hq => by have := og3 q hq; omega))) hbs
      have pg1 := own_ge hsp.t
      have pg2 := own_ge hsp.wt
      have pg3 := own_ge hsp.f
      have m0 := hsp.l0
      have m1 := hsp.l1
      have tl := hsp.tl
      have wl := hsp.wl
      have sz8 := hbs.size
      have hB8 : Below w.heap.size w w8 := hU7.1.trans (hbs.mono hU7.1.size)
      have hz7 := hU7.1.size
      have oT := hsp.t
      have oW := hsp.wt
      have oF := hsp.f
      clear hsp HSP hs
      subst hR2 hR3 hR1
      have kL1 := list_any oT rT (fun q hq hq' => by have h1 := pg1 q hq; have h2 := ol1 q hq'; omega)
      obtain ⟨ua, uc, rfl⟩ := rowI_slice oT
      obtain ⟨va, vc, rfl⟩ := rowI_slice oW
      obtain ⟨ta, tc, rfl⟩ := rowI_slice oF
      clear hoc0 hok0 hol0 hol1
      go_wp2_with fail
      refine kL1.mono ?_
      clear kL1
      rintro e w9 ⟨rfl, S1, hS1, hQ1⟩
      have kL2 := list_any (row_sole oW hQ1 (fun q hq hm => by have h1 := pg2 q hq; have h2 := tl q (hS1 q hm); omega)) (row_sole rW hQ1 (fun q hq hm => by have h1 := ol2 q hq; have h2 := pg1 q (hS1 q hm); omega)) (fun q hq hq' => by have h1 := pg2 q hq; have h2 := ol2 q hq'; omega)
      have oF1 := row_sole oF hQ1 (fun q hq hm => by have h1 := pg3 q hq; have h2 := tl q (hS1 q hm); omega)
      have rF1 := row_sole rF hQ1 (fun q hq hm => by have h1 := ol3 q hq; have h2 := pg1 q (hS1 q hm); omega)
      go_wp2_with fail
      refine kL2.mono ?_
      clear kL2
      rintro e w10 ⟨rfl, S2, hS2, hQ2⟩
      have kL3 := list_any (row_sole oF1 hQ2 (fun q hq hm => by have h1 := pg3 q hq; have h2 := wl q (hS2 q hm); omega)) (row_sole rF1 hQ2 (fun q hq hm => by have h1 := ol3 q hq; have h2 := pg2 q (hS2 q hm); omega)) (fun q hq hq' => by have h1 := pg3 q hq; have h2 := ol3 q hq'; omega)
      go_wp2_with fail
      refine kL3.mono ?_
      clear kL3
      rintro e w11 ⟨rfl, S3, hS3, hQ3⟩
      have hE1 := Sole.belowOf hB8 hQ1 hB8.size (fun q hm => by have := pg1 q (hS1 q hm); omega)
      have hE2 := Sole.belowOf hE1 hQ2 hE1.size (fun q hm => by have := pg2 q (hS2 q hm); omega)
      have hE3 := Sole.belowOf hE2 hQ3 hE2.size (fun q hm => by have := pg3 q (hS3 q hm); omega)
      go_wp2
      go_ret
      exact ⟨rfl, hE3⟩

/-! ### The row -/
set_option maxRecDepth 100000 in
theorem lifted (os : Os) (started : os.Started) (H : Type) (enc : TypeId × Value → H) :
    ReturnsInHanded {} Tryz.checked os 5 .any (Rows.poolUndoneSpec.pre6 enc Tryz.prog Tryz.f5 Rows.poolUndoneRow.domain false) (Rows.poolUndoneSpec.post enc Tryz.prog Tryz.f5 false true false false) := by
  refine returnsInHanded_of_change_sized (C := Tryz.checked) own started (by kernel_rfl) Tryz.func5
    (ChangeSpec.witness6 (enc := enc) (C := Tryz.checked) false ⟨#[], #[.slice none 0 0, .slice none 0 0], []⟩ 8 (by kernel_rfl) (by kernel_rfl) (by kernel_rfl) (by kernel_rfl)) ?_
  intro W base args ds gs before hval0 hW hcnd hsz0 _
  have hsz : (DataW.weightsEach Tryz.prog (Tryz.f5.params.toList ++ Rows.poolUndoneSpec.plain.varTypes Tryz.prog) (ds ++ gs)).all (· ≤ reachBytes) = true := hsz0
  clear hsz0
  have hval : ∀ (j : Nat) t v, Tryz.f5.params[j]? = some t → args[j]? = some v → Value.okWide Tryz.prog W .any base t v := hval0
  have hW' := hW
  obtain ⟨p, q, hA0, hV, rfl, hfz, hnd⟩ := hW
  have hA : DataW.TrodAll enc Tryz.prog W 0 (fun _ => true) true Tryz.f5.params.toList args.toList ds p := hA0
  rw [Tryz.params5] at hA hval hsz
  obtain ⟨v0, vs0, d0, ds0, p0, q0, hargs, rfl, rfl, h0, r0⟩ := trodAll_cons hA
  obtain ⟨v1, vs1, d1, ds1, p1, q1, rfl, rfl, rfl, h1, r1⟩ := trodAll_cons r0
  obtain ⟨rfl, rfl, rfl⟩ := trodAll_nil r1
  obtain rfl : args = #[v0, v1] := by cases args; simp_all
  obtain ⟨rfl, rfl⟩ := trodVars_none hV
  obtain ⟨a0, len0, cap0, rfl⟩ := okWide_slice Tryz.underlying23 (hval 0 23 v0 rfl rfl)
  have k0 := h0
  have lt0 : ∀ x ∈ p0, x.block < W.heap.size := by obtain ⟨m, hm⟩ := k0; exact DataW.trod_lt m _ _ _ hm
  obtain ⟨o0, w0⟩ : ∃ os, PopsAt W a0 len0 cap0 os := by
    obtain ⟨fuel, hf⟩ := h0
    exact popsAt_of hf (fun n hn => of_decide_eq_true (List.all_eq_true.1 hsz n (DataW.weights_mem_each (j := 0) rfl rfl n hn)))
  obtain ⟨a1, len1, cap1, rfl⟩ := okWide_slice Tryz.underlying23 (hval 1 23 v1 rfl rfl)
  have k1 := h1
  have lt1 : ∀ x ∈ p1, x.block < W.heap.size := by obtain ⟨m, hm⟩ := k1; exact DataW.trod_lt m _ _ _ hm
  obtain ⟨o1, w1⟩ : ∃ os, PopsAt W a1 len1 cap1 os := by
    obtain ⟨fuel, hf⟩ := h1
    exact popsAt_of hf (fun n hn => of_decide_eq_true (List.all_eq_true.1 hsz n (DataW.weights_mem_each (j := 1) rfl rfl n hn)))
  clear hA0 hval0
  refine (walk a0 len0 cap0 o0 a1 len1 cap1 o1 W w0 w1).mono fun e W' ⟨he, bel⟩ => ?_
  subst he
  exact ⟨_, rfl, _, _, _, [], _, [], hW', trodAll_mk1 (shut_bool Tryz.underlying4 _), (trodAll_cons_mk (Below.trod laidOut (by kernel_rfl) (of_decide_eq_true (by kernel_rfl)) k0 bel lt0) (trodAll_cons_mk (Below.trod laidOut (by kernel_rfl) (of_decide_eq_true (by kernel_rfl)) k1 bel lt1) trodAll_mk0)), rfl, bel.frame _, fun h => by cases h⟩

theorem over : Rows.poolUndoneRow.holds Tryz.pinned (OpenSpec.ofChange Rows.poolUndoneSpec) :=
  OpenClaim.holds_of_wide 5 Tryz.f5 rfl rfl rfl rfl rfl rfl rfl ⟨rfl, rfl, rfl, rfl, rfl⟩ rfl rfl rfl rfl rfl (by kernel_rfl) Tryz.func5 (by kernel_rfl)
    (of_decide_eq_true (by kernel_rfl)) (by unfold Func.isWrapper; first | (rw [if_pos (by decide +kernel)]; kernel_rfl) | (rw [if_neg (by decide +kernel)]; exact ⟨rfl, rfl⟩))
    (fun os started H enc _ => lifted os started H enc)

end Go.Proofs.YthgdbjpefjjeaaaGreat.poolUndone

namespace Go.Proofs.YthgdbjpefjjeaaaGreat
/-- The statement. -/
theorem poolUndone_proved : Rows.PoolUndoneSaid := poolUndone.over
#print axioms poolUndone_proved
end Go.Proofs.YthgdbjpefjjeaaaGreat
