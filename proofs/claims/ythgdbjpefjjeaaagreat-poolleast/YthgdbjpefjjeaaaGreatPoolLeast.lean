/- Proved: a page is written into the least block that is free -/
import Derived.Test.YthgdbjpefjjeaaaGreatMZ2
import Derived.Deep.RegionHeld3
import Derived.BigQuiet
import Derived.Deep.QuietTactic
import Derived.WalkSmall
import Derived.ProofKit
import Derived.OpenShut
import Derived.ShutString
import Derived.ChangeOld
import Derived.Below
import Derived.Carry
import Derived.SizedLaws
namespace Go.Proofs.YthgdbjpefjjeaaaGreat.poolLeast
open Go.ChangeShapes Go.WideShapes Go.ChangeAt Go.RowKit
open Go.ChangeMaps (open_string shut_string)
set_option linter.unusedVariables false

theorem own : ownKnob Tryz.prog.godebug = none := by kernel_rfl
theorem laidOut : laidOutB Tryz.prog = true := by kernel_rfl

set_option maxRecDepth 100000 in
set_option maxHeartbeats 8000000 in
theorem walk (x : Option Addr) (len cap : Nat) (os : List PopV) (w : World) (ho : PopsAt w x len cap os) :
    Calls Tryz.prog 7 #[.slice x len cap] w fun e w' => e = .returned (.bool true) ∧ Below w.heap.size w w' := by
  obtain ⟨hol, hlc, hcm, hok, hoc⟩ := id ho
  unfold maxLen at hcm
  go_enter Tryz.func7, Tryz.ntmps7
  go_wp2_with fail
  refine (live_any w).mono ?_
  rintro e w1 ⟨rfl, hb1⟩
  have hz1 := hb1.size
  have k0 := disk_New w1 30 (by omega) (by omega)
  unfold ptr at k0
  go_wp2_with fail
  refine k0.mono ?_
  clear k0
  rintro e w2 ⟨rfl, hd2, hb2, hs2⟩
  have k1 := start_any hd2 hb2 hs2
  unfold ptr at k1
  go_wp2_with fail
  refine k1.mono ?_
  clear k1
  rintro e w3 ⟨a, rfl, hP, hb3, ha, _⟩
  clear hd2 hb2 hs2
  have hB3 : Below w.heap.size w w3 := hb1.trans (hb3.mono hz1)
  have ha' : ∀ k ∈ a.all, w.heap.size ≤ k := fun k hk => Nat.le_trans hz1 (ha k hk)
  clear ha hb3
  unfold ptr
  by_cases hmany : 100 < len
  · have hmI : (100 : Int) < len := by omega
    clear hoc hok
    go_wp2
    go_ret
    exact ⟨rfl, hB3⟩
  have hmI : ¬ (100 : Int) < len := by omega
  go_wp2_with fail
  go_loopw [49] (fun t wr => ∃ (k : Nat) (b : Ad) (P : Pu), k ≤ len ∧ t = .int .i64 k ∧ Hid (PuAt wr b P) ∧ DOn P.d ∧ b.q = a.q ∧ Below w.heap.size w wr ∧ ∀ k ∈ b.all, w.heap.size ≤ k) (fun t _ => len - (Go.RowKit.intOf t).toNat)
  case atStart => exact ⟨0, a, pool0, Nat.zero_le _, rfl, hP, pool0_on, rfl, hB3, ha'⟩
  case round =>
    obtain ⟨k, b, P, hk, rfl, HP, hon, hbq, hbr, hba⟩ := hrel
    clear hP hB3 ha'
    by_cases hlt : k < len
    · have hltI : (k : Int) < len := by omega
      obtain ⟨g, off, rfl, hgl, hat⟩ := hoc (by omega)
      obtain ⟨o, ho'⟩ := at_some hol hlt
      have hA := hat k hlt
      rw [show os.getD k pop0 = o by rw [List.getD_eq_getElem?_getD, ho']; rfl] at hA
      have hoo := hok o (List.mem_of_getElem? ho')
      have hin0 := hA.inn
      obtain ⟨c0, c1, c2, c3, c4, c5, c6, c7, hin⟩ := hA.same (hbr.block g hgl) (hA.inn.below hbr)
      clear hat hA hoc ho'
      have HB := (Below.refl wr.heap.size wr).alloc (Nat.le_refl _) (.cells o.cells 42)
      have hP1 := HP.out.below HB
      have hB1 : Below w.heap.size w (wr.alloc (.cells o.cells 42)) := hbr.trans (HB.mono hbr.size)
      have HB2 := (Below.refl (wr.alloc (.cells o.cells 42)).heap.size (wr.alloc (.cells o.cells 42))).alloc (Nat.le_refl _) (.cells o.cells 42)
      have kPl := play_any (hP1.below HB2) _ 1 1 [o] (one_pop hP1 hoo hin0 hB1 hba)
      have hB2 := hB1.trans (HB2.mono hB1.size)
      have hs1 : (wr.alloc (.cells o.cells 42)).heap.size = wr.heap.size + 1 := by simp
      rw [hs1] at kPl
      clear hs1
      have kSp := space_any hP1
      have kNo := fun W (hW : Below (wr.alloc (.cells o.cells 42)).heap.size (wr.alloc (.cells o.cells 42)) W) => node_any W o hoo ((hin.below HB).below hW)
      obtain ⟨a3, k3, a5, k5, a6, k6, a7, k7, e3, e5, e6, e7⟩ := hin.slices
      have HOK : Hid (PopOk o) := hoo
      have hpd := playP_all hP1.ok hon [o]
      clear hin hin0 hoo
      unfold PopV.cells at *
      rw [e3] at c3 kPl kSp kNo HB HB2 hP1 hB1 hB2
      rw [e5] at c5 kPl kSp kNo HB HB2 hP1 hB1 hB2
      rw [e6] at c6 kPl kSp kNo HB HB2 hP1 hB1 hB2
      rw [e7] at c7 kPl kSp kNo HB HB2 hP1 hB1 hB2
      generalize hlf : o.nd.leaf = lf at *
      generalize hn5 : o.nd.pairs.length = n5 at *
      generalize hn6 : o.nd.keys.length = n6 at *
      generalize hn7 : o.nd.kids.length = n7 at *
      generalize hn3 : o.f3.length = n3 at *
      unfold ptr at kPl kSp
      rw [hbq] at kPl kSp
      by_cases d0 : o.f0 = 0
      · simp only [d0] at c0 kPl kSp kNo HB HB2 hP1 hB1 hB2
        clear kPl HB2 hB2
        have hE0 := nodeE_small HOK.out (by rw [d0]; decide)
        go_wp2_with fail
        refine kSp.mono ?_
        clear kSp
        rintro e v1 ⟨xx, yy, zz, b1, b2, rfl, hsp, hbs⟩
        obtain ⟨xa, xc, rfl⟩ := rowI_slice hsp.t
        obtain ⟨ya, yc, rfl⟩ := rowI_slice hsp.wt
        obtain ⟨za, zc, rfl⟩ := rowI_slice hsp.f
        have kN1 := kNo v1 hbs
        clear kNo
        obtain ⟨y0, y1, y2, y3, y4, y5, y6, y7⟩ := box8 ((hbs.block wr.heap.size (by simp)).trans (heap_alloc_new wr _))
        generalize hT2 : (blocksL P.now 2).length = T2 at *
        generalize hT3 : (blocksL P.now 3).length = T3 at *
        go_wp2_with fail
        refine kN1.mono ?_
        clear kN1
        rintro e v2 ⟨u, rfl, hnd, _, hbn⟩
        obtain ⟨u1, q1, u2, q2, u3, q3, rfl, _⟩ := id hnd
        have hP2 := (hP1.below hbs).below hbn
        have kW := pwrite_any hP2 _ _ hnd (nodeN_ok HOK.out)
        have hfo := hsp.f
        have hB4 : Below w.heap.size w v2 := (hB1.trans (hbs.mono hB1.size)).trans (hbn.mono (Nat.le_trans hB1.size hbs.size))
        have hl0 := hsp.l0
        have hl1 := hsp.l1
        generalize hNL : (nodeN o).leaf = L0 at *
        generalize hNP : (nodeN o).pairs.length = L1 at *
        generalize hNK : (nodeN o).keys.length = L2 at *
        generalize hNC : (nodeN o).kids.length = L3 at *
        clear hNL hNP hNK hNC hsp
        cases hfr : firstR P.now.ks with
        | none =>
          have hw := wrP_none (p := P) hE0 hfr
          rw [hw] at kW
          rw [free_none hfr] at hfo ⊢
          unfold ptr at kW
          rw [hbq] at kW
          dsimp only [List.length_nil]
          go_wp2_with fail
          refine kW.mono ?_
          clear kW
          rintro e v3 ⟨rfl, hP3, hM3⟩
          have hU := hM3.under hB4 hB4.size hba
          go_wp2_with fail
          go_roundw
          case rel => exact ⟨k + 1, b, P, by omega, by go_num, hP3, hon, hbq, hU.1, hU.2⟩
          case measure => simp [Go.RowKit.intOf]; omega
        | some j =>
          have hw := wrP_some hP2.ok hon hE0 hfr
          have hfs := free_some (s := P.now) hfr
          have hon' := wrP_on hP2.ok hon (nodeN o)
          rw [hw] at kW hon'
          have hf1 := first_at (s := P.now) (by have := firstR_is P.now.ks; rw [hfr] at this; exact this)
          have hmost := hP2.ok.n.most
          generalize hID : P.now.lo + j = ID at *
          have hIDb : ID < 1024 := by omega
          have hlen : 0 < (blocksL P.now 1).length := by
            rcases Nat.eq_zero_or_pos (blocksL P.now 1).length with e | e
            · rw [List.length_eq_zero_iff.1 e] at hfs; cases hfs
            · exact e
          unfold ptr at kW
          rw [hbq] at kW
          have hzb : za ≠ none ∧ ∀ W a', Moves v2 W b a' → ∃ gz, za = some ⟨gz, 0, none⟩ ∧ W.cell? ⟨gz, 0, none⟩ = some (.int .i64 (ID : Int)) := by
            rcases hfo.2 with ⟨e, h0⟩ | ⟨gz, cap', cur, e, g1, g2, g3, g4, g5, g6⟩
            · omega
            · cases e
              refine ⟨by simp, fun W a' hM => ⟨gz, rfl, ?_⟩⟩
              have hgl2 := (Array.getElem?_eq_some_iff.1 g2).1
              have hgn : gz ∉ b.all := fun hh => by have := hP1.lt gz hh; omega
              have hW := (hM.out (k := gz) (Nat.lt_of_lt_of_le hgl2 hbn.size) hgn).2.trans ((hbn.block gz hgl2).trans g2)
              rw [cell_of_row W _ 0 _ _ (0, 0) hW]
              have h6 := congrArg (fun (l : List Value) => l[0]?) g6
              rw [List.getElem?_take_of_lt (by omega), Array.getElem?_toList] at h6
              rw [h6]
              unfold natC
              rw [List.getElem?_map, hfs]
              rfl
          generalize hNF : (blocksL P.now 1).length = NF at *
          have hNFI : ¬ (NF : Int) = 0 := by omega
          have hNFN : ¬ NF = 0 := by omega
          have hNFp : (0 : Int) < NF := by omega
          clear hNF hfo hfs hw
          go_wp2_with fail
          refine kW.mono ?_
          clear kW
          rintro e v3 ⟨rfl, hP3, hM3⟩
          obtain ⟨gz, rfl, hcz⟩ := hzb.2 v3 b hM3
          clear hzb
          have hU := hM3.under hB4 hB4.size hba
          have hIDI : ¬ ((ID : Nat) : Int) ≠ ((ID : Nat) : Int) := by simp
          go_wp2_with fail
          go_roundw
          case rel => exact ⟨k + 1, b, _, by omega, by go_num, hP3, hon', hbq, hU.1, hU.2⟩
          case measure => simp [Go.RowKit.intOf]; omega
      · clear kSp kNo
        generalize hf0 : o.f0 = f0 at *
        go_wp2_with fail
        refine kPl.mono ?_
        clear kPl
        rintro e v3 ⟨rfl, b', hP3, hM3⟩
        have hU := hM3.under hB2 hB2.size hba
        go_wp2_with fail
        go_roundw
        case rel => exact ⟨k + 1, b', _, by omega, by go_num, hP3, hpd.2, hM3.q.trans hbq, hU.1, hU.2⟩
        case measure => simp [Go.RowKit.intOf]; omega
    · obtain rfl : k = len := by omega
      have hltI : ¬ (k : Int) < k := by omega
      clear hoc
      go_wp2
      go_ret
      exact ⟨rfl, hbr⟩

/-! ### The row -/
set_option maxRecDepth 100000 in
theorem lifted (os : Os) (started : os.Started) (H : Type) (enc : TypeId × Value → H) :
    ReturnsInHanded {} Tryz.checked os 7 .any (Rows.poolLeastSpec.pre6 enc Tryz.prog Tryz.f7 Rows.poolLeastRow.domain false) (Rows.poolLeastSpec.post enc Tryz.prog Tryz.f7 false true false false) := by
  refine returnsInHanded_of_change_sized (C := Tryz.checked) own started (by kernel_rfl) Tryz.func7
    (ChangeSpec.witness6 (enc := enc) (C := Tryz.checked) false ⟨#[], #[.slice none 0 0], []⟩ 8 (by kernel_rfl) (by kernel_rfl) (by kernel_rfl) (by kernel_rfl)) ?_
  intro W base args ds gs before hval0 hW hcnd hsz0 _
  have hsz : (DataW.weightsEach Tryz.prog (Tryz.f7.params.toList ++ Rows.poolLeastSpec.plain.varTypes Tryz.prog) (ds ++ gs)).all (· ≤ reachBytes) = true := hsz0
  clear hsz0
  have hval : ∀ (j : Nat) t v, Tryz.f7.params[j]? = some t → args[j]? = some v → Value.okWide Tryz.prog W .any base t v := hval0
  have hW' := hW
  obtain ⟨p, q, hA0, hV, rfl, hfz, hnd⟩ := hW
  have hA : DataW.TrodAll enc Tryz.prog W 0 (fun _ => true) true Tryz.f7.params.toList args.toList ds p := hA0
  rw [Tryz.params7] at hA hval hsz
  obtain ⟨v0, vs0, d0, ds0, p0, q0, hargs, rfl, rfl, h0, r0⟩ := trodAll_cons hA
  obtain ⟨rfl, rfl, rfl⟩ := trodAll_nil r0
  obtain rfl : args = #[v0] := by cases args; simp_all
  obtain ⟨rfl, rfl⟩ := trodVars_none hV
  obtain ⟨a0, len0, cap0, rfl⟩ := okWide_slice Tryz.underlying23 (hval 0 23 v0 rfl rfl)
  have k0 := h0
  have lt0 : ∀ x ∈ p0, x.block < W.heap.size := by obtain ⟨m, hm⟩ := k0; exact DataW.trod_lt m _ _ _ hm
  obtain ⟨o0, w0⟩ : ∃ os, PopsAt W a0 len0 cap0 os := by
    obtain ⟨fuel, hf⟩ := h0
    exact popsAt_of hf (fun n hn => of_decide_eq_true (List.all_eq_true.1 hsz n (DataW.weights_mem_each (j := 0) rfl rfl n hn)))
  clear hA0 hval0
  refine (walk a0 len0 cap0 o0 W w0).mono fun e W' ⟨he, bel⟩ => ?_
  subst he
  exact ⟨_, rfl, _, _, _, [], _, [], hW', trodAll_mk1 (shut_bool Tryz.underlying4 _), (trodAll_cons_mk (Below.trod laidOut (by kernel_rfl) (of_decide_eq_true (by kernel_rfl)) k0 bel lt0) trodAll_mk0), rfl, bel.frame _, fun h => by cases h⟩

theorem over : Rows.poolLeastRow.holds Tryz.pinned (OpenSpec.ofChange Rows.poolLeastSpec) :=
  OpenClaim.holds_of_wide 7 Tryz.f7 rfl rfl rfl rfl rfl rfl rfl ⟨rfl, rfl, rfl, rfl, rfl⟩ rfl rfl rfl rfl rfl (by kernel_rfl) Tryz.func7 (by kernel_rfl)
    (of_decide_eq_true (by kernel_rfl)) (by unfold Func.isWrapper; first | (rw [if_pos (by decide +kernel)]; kernel_rfl) | (rw [if_neg (by decide +kernel)]; exact ⟨rfl, rfl⟩))
    (fun os started H enc _ => lifted os started H enc)

end Go.Proofs.YthgdbjpefjjeaaaGreat.poolLeast

namespace Go.Proofs.YthgdbjpefjjeaaaGreat
/-- The statement. -/
theorem poolLeast_proved : Rows.PoolLeastSaid := poolLeast.over
#print axioms poolLeast_proved
end Go.Proofs.YthgdbjpefjjeaaaGreat
