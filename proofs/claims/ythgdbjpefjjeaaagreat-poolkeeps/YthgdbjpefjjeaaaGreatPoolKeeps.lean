/- Proved: what stands in a page does not change while it is taken or waits -/
import Derived.Test.YthgdbjpefjjeaaaGreatZKeep
import Derived.Test.YthgdbjpefjjeaaaGreatMZ2
import Derived.Deep.RegionHeld3
import Derived.BigQuiet
import Derived.Deep.QuietTactic
import Derived.WalkSmall
import Derived.ProofKit
import Derived.OpenShut
import Derived.ShutString
import Derived.ChangeOld
import Derived.Below
import Derived.Carry
import Derived.SizedLaws
import Derived.Deep.CutRange
import Derived.Deep.CutBlock
namespace Go.Proofs.YthgdbjpefjjeaaaGreat.poolKeeps
open Go.ChangeShapes Go.WideShapes Go.ChangeAt Go.RowKit
open Go.ChangeMaps (open_string shut_string)
set_option linter.unusedVariables false

theorem own : ownKnob Tryz.prog.godebug = none := by kernel_rfl
theorem laidOut : laidOutB Tryz.prog = true := by kernel_rfl

set_option maxRecDepth 100000 in
set_option maxHeartbeats 8000000 in
theorem walk (x : Option Addr) (len cap : Nat) (os : List PopV) (w : World) (ho : PopsAt w x len cap os) :
    Calls Tryz.prog 4 #[.slice x len cap] w fun e w' => e = .returned (.bool true) ∧ Below w.heap.size w w' := by
  obtain ⟨hol, hlc, hcm, hok, hoc⟩ := id ho
  unfold maxLen at hcm
  go_enter Tryz.func4, Tryz.ntmps4
  go_wp2_with fail
  refine (live_any w).mono ?_
  rintro e w1 ⟨rfl, hb1⟩
  have hz1 := hb1.size
  have k0 := disk_New w1 30 (by omega) (by omega)
  unfold ptr at k0
  go_wp2_with fail
  refine k0.mono ?_
  clear k0
  rintro e w2 ⟨rfl, hd2, hb2, hs2⟩
  have k1 := start_any hd2 hb2 hs2
  unfold ptr at k1
  go_wp2_with fail
  refine k1.mono ?_
  clear k1
  rintro e w3 ⟨a, rfl, hP, hb3, ha, _⟩
  clear hd2 hb2 hs2
  have hB3 : Below w.heap.size w w3 := hb1.trans (hb3.mono hz1)
  have ha' : ∀ k ∈ a.all, w.heap.size ≤ k := fun k hk => Nat.le_trans hz1 (ha k hk)
  clear ha hb3
  unfold ptr
  by_cases hmany : 100 < len
  · have hmI : (100 : Int) < len := by omega
    clear hoc hok
    go_wp2
    go_ret
    exact ⟨rfl, hB3⟩
  have hmI : ¬ (100 : Int) < len := by omega
  have mm : (Instr.makeMap 50 none).run Tryz.prog w3 = .ok (.map (some w3.heap.size)) (w3.alloc (.map #[] 0)) := run_makeMap _ w3
  have hN0 := NMap.made w3
  have hbm := (Below.refl w3.heap.size w3).alloc (Nat.le_refl _) (.map #[] 0)
  have hPm := hP.below hbm
  have hB4 : Below w.heap.size w (w3.alloc (.map #[] 0)) := hB3.trans (hbm.mono hB3.size)
  have hmb : w3.heap.size ∉ a.all := fun h => by have := hP.lt _ h; omega
  have hK0 : Keeps (w3.alloc (.map #[] 0)) a pool0 (fun _ => none) := fun j hj hne => by
    exfalso
    apply hne
    have hj' : j < 25 := hj
    show (List.replicate 25 1).getD j 0 = 1
    rw [List.getD_eq_getElem?_getD, List.getElem?_replicate, if_pos hj']
    rfl
  have hwm : w.heap.size ≤ w3.heap.size := hB3.size
  generalize hmbn : w3.heap.size = mb at *
  generalize hW4 : w3.alloc (.map #[] 0) = W4 at *
  clear hP hB3 hbm
  go_wp2_with fail
  go_loopw [55] (fun t wr => ∃ (k : Nat) (b : Ad) (P : Pu) (M : Int → Option Value) (n : Nat), k ≤ len ∧ t = .int .i64 k ∧ Hid (PuAt wr b P) ∧ DOn P.d ∧ b.q = a.q ∧ Below w.heap.size w wr ∧ (∀ k ∈ b.all, w.heap.size ≤ k) ∧ Hid (NMap wr mb n M) ∧ n ≤ k ∧ mb ∉ b.all ∧ Hid (Keeps wr b P M)) (fun t _ => len - (Go.RowKit.intOf t).toNat)
  case atStart => exact ⟨0, a, pool0, _, 0, Nat.zero_le _, rfl, hPm, pool0_on, rfl, hB4, ha', hN0, Nat.le_refl _, hmb, hK0⟩
  case round =>
    obtain ⟨k, b, P, M, n, hk, rfl, HP, hon, hbq, hbr, hba, HN, hnk, hmb', HK⟩ := hrel
    clear hPm hB4 ha' hN0 hmb hK0 mm hmbn hW4
    by_cases hlt : k < len
    · have hltI : (k : Int) < len := by omega
      obtain ⟨g, off, rfl, hgl, hat⟩ := hoc (by omega)
      obtain ⟨o, ho'⟩ := at_some hol hlt
      have hA := hat k hlt
      rw [show os.getD k pop0 = o by rw [List.getD_eq_getElem?_getD, ho']; rfl] at hA
      have hoo := hok o (List.mem_of_getElem? ho')
      have hin0 := hA.inn
      obtain ⟨c0, c1, c2, c3, c4, c5, c6, c7, hin⟩ := hA.same (hbr.block g hgl) (hA.inn.below hbr)
      clear hat hA hoc ho'
      have HB := (Below.refl wr.heap.size wr).alloc (Nat.le_refl _) (.cells o.cells 42)
      have hP1 := HP.out.below HB
      have hB1 : Below w.heap.size w (wr.alloc (.cells o.cells 42)) := hbr.trans (HB.mono hbr.size)
      have hN1 := HN.out.same (HB.block mb HN.out.lt)
      have hK1 := HK.out.below HB
      have kNo := fun W (hW : PopIn W o) => node_any W o hoo hW
      have kD := drop_any hP1 o.f1 hoo.a1.1 hoo.a1.2
      have kS := settle_any hP1
      have kU := undo_any hP1
      have kW := psweep_any hP1 o.v3 o.f3 (hin.below HB).keep hoo.keep hoo.ku
      have hloc := heap_alloc_new wr (.cells o.cells 42)
      obtain ⟨a3, k3, a5, k5, a6, k6, a7, k7, e3, e5, e6, e7⟩ := hin.slices
      have HOK : Hid (PopOk o) := hoo
      have hf1 := hoo.a1
      have HIN0 : Hid (PopIn w o) := hin0
      have hsml := fun h => nodeE_small hoo h
      clear hin hin0 hoo
      unfold PopV.cells at *
      rw [e3] at c3 kNo kD kS kU kW hN1 hK1 HB hP1 hB1 hloc
      rw [e5] at c5 kNo kD kS kU kW hN1 hK1 HB hP1 hB1 hloc
      rw [e6] at c6 kNo kD kS kU kW hN1 hK1 HB hP1 hB1 hloc
      rw [e7] at c7 kNo kD kS kU kW hN1 hK1 HB hP1 hB1 hloc
      generalize hlf : o.nd.leaf = lf at *
      generalize hn5 : o.nd.pairs.length = n5 at *
      generalize hn6 : o.nd.keys.length = n6 at *
      generalize hn7 : o.nd.kids.length = n7 at *
      generalize hn3 : o.f3.length = n3 at *
      unfold ptr at kD kS kU kW
      rw [hbq] at kD kS kU kW
      obtain ⟨y0, y1, y2, y3, y4, y5, y6, y7⟩ := box8 hloc
      have hsL : wr.heap.size < (wr.alloc (.cells #[.int .i64 o.f0, .int .u32 o.f1, .bool o.f2, .slice a3 n3 k3, .bool lf, .slice a5 n5 k5, .slice a6 n6 k6, .slice a7 n7 k7] 42)).heap.size := by simp
      have hlocb : wr.heap.size ∉ b.all := fun h => by have := HP.out.lt _ h; omega
      have hMb : ∀ {W : World} {b' : Ad}, Moves (wr.alloc (.cells #[.int .i64 o.f0, .int .u32 o.f1, .bool o.f2, .slice a3 n3 k3, .bool lf, .slice a5 n5 k5, .slice a6 n6 k6, .slice a7 n7 k7] 42)) W b b' → NMap W mb n M ∧ mb ∉ b'.all ∧ Below w.heap.size w W ∧ ∀ k ∈ b'.all, w.heap.size ≤ k := fun hM =>
        ⟨hN1.same (hM.out hN1.lt hmb').2, (hM.out hN1.lt hmb').1, (hM.under hB1 hB1.size hba).1, (hM.under hB1 hB1.size hba).2⟩
      have HMb : Hid _ := @hMb
      clear hMb
      generalize hWL : wr.alloc (.cells #[.int .i64 o.f0, .int .u32 o.f1, .bool o.f2, .slice a3 n3 k3, .bool lf, .slice a5 n5 k5, .slice a6 n6 k6, .slice a7 n7 k7] 42) = WL at *
      have HF0 : Hid (o.f0 = o.f0) := rfl
      generalize hf0 : o.f0 = f0 at *
      clear hf0 HF0
      go_upto_block 2 with fail
      go_cut [11, 12] from 56 to 129 (fun _ _ wx => ∃ (b' : Ad) (P' : Pu) (M' : Int → Option Value) (n' : Nat), Hid (PuAt wx b' P') ∧ DOn P'.d ∧ b'.q = a.q ∧ Below w.heap.size w wx ∧ (∀ k ∈ b'.all, w.heap.size ≤ k) ∧ Hid (NMap wx mb n' M') ∧ n' ≤ k + 1 ∧ mb ∉ b'.all ∧ Hid (Keeps wx b' P' M'))
      case first =>
        clear c0 c1 c2 c3 c4 c5 c6 c7
        by_cases d0 : f0 = 0
        · subst d0
          have hE0 := hsml (by decide)
          have kN1 := kNo WL (HIN0.out.below hB1)
          clear kD kS kU kW
          go_wp2_with fail
          refine kN1.mono ?_
          clear kN1
          rintro e w2 ⟨u, rfl, hnd, _, hb2⟩
          obtain ⟨u1, q1, u2, q2, u3, q3, rfl, _⟩ := id hnd
          have hP2 := hP1.below hb2
          have kWr := pwrite_any hP2 _ _ hnd (nodeN_ok HOK.out)
          have HNDO : Hid (NdOk (nodeN o)) := nodeN_ok HOK.out
          generalize hNL : (nodeN o).leaf = L0 at *
          generalize hNP : (nodeN o).pairs.length = L1 at *
          generalize hNK : (nodeN o).keys.length = L2 at *
          generalize hNC : (nodeN o).kids.length = L3 at *
          cases hfr : firstR P.now.ks with
          | none =>
            have hw := wrP_none (p := P) hE0 hfr
            rw [hw] at kWr
            unfold ptr at kWr
            rw [hbq] at kWr
            dsimp only at kWr
            go_wp2_with fail
            refine kWr.mono ?_
            clear kWr
            rintro e v3 ⟨rfl, hP3, hM3⟩
            have hMt := (Moves.of_below hb2).trans hM3
            have hF := HMb.out hMt
            have hKt := hK1.moves hMt
            clear hsml kNo
            go_wp2_with fail
            go_meet
            exact ⟨b, P, M, n, hP3, hon, hbq, hF.2.2.1, hF.2.2.2, hF.1, by omega, hF.2.1, hKt⟩
          | some j =>
            have hw := wrP_some hP2.ok hon hE0 hfr
            have hon' := wrP_on hP2.ok hon (nodeN o)
            rw [hw] at kWr hon'
            have hf1' := first_at (s := P.now) (by have := firstR_is P.now.ks; rw [hfr] at this; exact this)
            have hmost := hP2.ok.n.most
            have hIDb : P.now.lo + j < 1024 := by omega
            unfold ptr at kWr
            rw [hbq] at kWr
            dsimp only at kWr
            have hKw := fun (W : World) (v : Value) (hK : Keeps W b P M) (hv : NdFar W b v (nodeN o)) => hK.write hP2.ok hon hfr (nodeE_ok hE0) HNDO.out hv
            generalize hID : P.now.lo + j = ID at *
            go_wp2_with fail
            refine kWr.mono ?_
            clear kWr
            rintro e v3 ⟨rfl, hP3, hM3⟩
            have hMt := (Moves.of_below hb2).trans hM3
            have hF := HMb.out hMt
            have hKt := hK1.moves hMt
            obtain ⟨y0, y1, y2, y3, y4, y5, y6, y7⟩ := box8 ((hMt.out hsL hlocb).2.trans hloc)
            have kN2 := kNo v3 (HIN0.out.below hF.2.2.1)
            clear kNo hnd
            go_wp2_with fail
            refine kN2.mono ?_
            clear kN2
            rintro e v4 ⟨u', rfl, _, hown, hb4⟩
            have hown := hown (by decide)
            obtain ⟨dd, hdd⟩ := nEnc_own hown
            have hN4 := hF.1.same (hb4.block mb hF.1.lt)
            obtain ⟨v5, hmu, hN5, hS5⟩ := hN4.write (by omega) (i := ((ID : Nat) : Int)) (by omega) (by omega) hdd
            have hfar := NdFar.new hown hP3 (Nat.le_refl _)
            have hK5 := (hKw v4 u' (hKt.below hb4) hfar).put hN4 hS5
            have hP5 := (hP3.below hb4).other hS5 (fun k hk => by simp; intro e; exact hF.2.1 (by rw [← e]; exact hk))
            have hB5 : Below w.heap.size w v5 := Sole.belowOf (hF.2.2.1.trans (hb4.mono hF.2.2.1.size)) hS5 (Nat.le_trans hF.2.2.1.size hb4.size) (by simp; exact hwm)
            obtain ⟨o1, o2, o3, rfl, w1', w2', w3'⟩ := id hown
            obtain ⟨s1, t1, rfl⟩ := row_slice w1'
            obtain ⟨s2, t2, rfl⟩ := row_slice w2'
            obtain ⟨s3, t3, rfl⟩ := row_slice w3'
            rw [hNL, hNP, hNK, hNC] at hmu ⊢
            clear hown w1' w2' w3' hfar hKw hsml
            go_wp2_with fail
            go_meet
            exact ⟨b, _, _, n + 1, hP5, hon', hbq, hB5, hF.2.2.2, hN5, by omega, hF.2.1, hK5⟩
        · by_cases d2 : f0 = 2
          · subst d2
            clear kS kU kW kNo hsml
            go_wp2_with fail
            refine kD.mono ?_
            clear kD
            rintro e v3 ⟨rfl, hP3, hM3⟩
            have hF := HMb.out hM3
            have hKt := (hK1.drop o.f1).moves hM3
            go_wp2_with fail
            go_meet
            exact ⟨b, _, M, n, hP3, hon, hbq, hF.2.2.1, hF.2.2.2, hF.1, by omega, hF.2.1, hKt⟩
          · by_cases d3 : f0 = 3
            · subst d3
              clear kD kU kW kNo hsml
              go_wp2_with fail
              refine kS.mono ?_
              clear kS
              rintro e v3 ⟨rfl, b', hP3, hM3⟩
              have hF := HMb.out hM3
              have hKt := hK1.settle.moves hM3
              go_wp2_with fail
              go_meet
              exact ⟨b', _, M, n, hP3, hon, hM3.q.trans hbq, hF.2.2.1, hF.2.2.2, hF.1, by omega, hF.2.1, hKt⟩
            · by_cases d4 : f0 = 4
              · subst d4
                clear kD kS kW kNo hsml
                go_wp2_with fail
                refine kU.mono ?_
                clear kU
                rintro e v3 ⟨rfl, b', hP3, hM3⟩
                have hF := HMb.out hM3
                have hKt := (hK1.undo hP1.ok).moves hM3
                go_wp2_with fail
                go_meet
                exact ⟨b', _, M, n, hP3, hon, hM3.q.trans hbq, hF.2.2.1, hF.2.2.2, hF.1, by omega, hF.2.1, hKt⟩
              · by_cases d5 : f0 = 5
                · subst d5
                  clear kD kS kU kNo hsml
                  go_wp2_with fail
                  refine kW.mono ?_
                  clear kW
                  rintro e v3 ⟨rfl, hP3, hM3⟩
                  have hF := HMb.out hM3
                  have hKt := (hK1.sweep o.f3).moves hM3
                  go_wp2_with fail
                  go_meet
                  exact ⟨b, _, M, n, hP3, hon, hbq, hF.2.2.1, hF.2.2.2, hF.1, by omega, hF.2.1, hKt⟩
                · have hF := HMb.out (Moves.refl WL b)
                  clear kD kS kU kW kNo hsml
                  go_wp2_with fail
                  go_meet
                  exact ⟨b, P, M, n, hP1, hon, hbq, hF.2.2.1, hF.2.2.2, hF.1, by omega, hF.2.1, hK1⟩
      case rest =>
        clear kD kS kU kW kNo hsml hN1 hK1 hP1 hB1 HMb hlocb hloc y0 y1 y2 y3 y4 y5 y6 y7 c0 c1 c2 c3 c4 c5 c6 c7 HP HN HK hon hbq hbr hba hnk hmb' HB hsL hWL
        obtain ⟨b', P', M', n', HP', hon', hbq', hB', hba', HN', hn', hmb'', HK'⟩ := hcut
        have hw0 : w.heap.size ≤ wc.heap.size := hB'.size
        have kSp := space_any HP'.out
        unfold ptr at kSp
        rw [hbq'] at kSp
        go_wp2_with fail
        refine kSp.mono ?_
        clear kSp
        rintro e v1 ⟨xx, yy, zz, b1, b2, rfl, hsp, hbs⟩
        obtain ⟨xa, xc, rfl⟩ := rowI_slice hsp.t
        obtain ⟨ya, yc, rfl⟩ := rowI_slice hsp.wt
        obtain ⟨za, zc, rfl⟩ := rowI_slice hsp.f
        have hfull := full_len HP'.out.ok.n
        have hmost := HP'.out.ok.n.most
        have n1 : (blocksL P'.now 2).length ≤ 1024 := by omega
        have n2 : (blocksL P'.now 3).length ≤ 1024 := by omega
        have og1 := own_ge hsp.t
        have hz1 := hbs.size
        have hPs := HP'.out.below hbs
        have hNs := HN'.out.same (hbs.block mb HN'.out.lt)
        have hKs := HK'.out.below hbs
        have hBs : Below w.heap.size w v1 := hB'.trans (hbs.mono hB'.size)
        have hlt' := HP'.out.lt
        have hmlt := HN'.out.lt
        have rT := hsp.t
        have rW := hsp.wt
        have HXL : Hid (∀ x ∈ blocksL P'.now 2 ++ blocksL P'.now 3, x < 1024) := fun x hx => by
          rcases List.mem_append.1 hx with h | h
          · exact blocks_le hPs.ok.n h
          · exact blocks_le hPs.ok.n h
        have HRD : Hid (∀ (W : World) (x : Nat), Keeps W b' P' M' → x ∈ blocksL P'.now 2 ++ blocksL P'.now 3 → ∃ v n, M' (x : Int) = some v ∧ NdFar W b' v n ∧ prdE P' (x : Int) = 0 ∧ prdN P' (x : Int) = n ∧ n.pairs.length ≤ 4398046511104) := fun W x hK hx => hK.read hPs.ok hon' hx
        clear hsp hfull hmost HP' HN' HK' hB'
        generalize hTF : (blocksL P'.now 1).length = TF at *
        generalize hL2 : blocksL P'.now 2 = L2 at *
        generalize hL3 : blocksL P'.now 3 = L3 at *
        clear hTF hL2 hL3
        go_wp2_with (at_builtin; refine wpList_append_rows rfl _ _ rfl wc.heap.size b1 _ _ L2 L3 rfl rT rfl rW n1 n2 (by omega) ?_; intro v' w10 happ hSo; obtain ⟨va, vc, rfl⟩ := rowI_slice happ)
        obtain ⟨S, hS, hSo⟩ := hSo
        have hSn : ∀ q ∈ S, q ∉ b'.all ∧ q ≠ mb := fun q hq => by
          have h1 := og1 q (hS q hq)
          exact ⟨fun h => by have := hlt' q h; omega, fun h => by omega⟩
        have hPA := hPs.other hSo (fun k hk h => (hSn k h).1 hk)
        have hNA := hNs.same (hSo.block mb hNs.lt (fun h => (hSn mb h).2 rfl))
        have hKA : Keeps w10 b' P' M' := fun j hj hk => by
          obtain ⟨v, nn, h1, h2, r⟩ := hKs j hj hk
          exact ⟨v, nn, h1, h2.sole hSo (fun q hq => own_is rT (hS q hq)), r⟩
        have hBA : Below w.heap.size w w10 := Sole.belowOf hBs hSo hBs.size (fun q hq => by have := og1 q (hS q hq); omega)
        have hcap : (L2 ++ L3).length ≤ vc ∧ vc ≤ 9223372036854775807 := by
          rcases happ.2 with ⟨e, h0⟩ | ⟨g, c, cur, e, _, _, g3, g4, _⟩
          · simp only [Value.slice.injEq] at e; omega
          · simp only [Value.slice.injEq] at e; unfold maxLen at g4; omega
        have hn : (L2 ++ L3).length = L2.length + L3.length := List.length_append
        have HAP : Hid _ := happ
        clear happ rT rW n1 n2 og1 hKs hNs hPs hSo hSn hBs
        generalize hLL : L2 ++ L3 = LL at *
        clear hLL
        generalize L2.length = T2 at *
        generalize L3.length = T3 at *
        rw [hn] at hcap
        go_loopw [106] (fun t wi => ∃ j : Nat, j ≤ T2 + T3 ∧ t = .int .i64 j ∧ Below w10.heap.size w10 wi) (fun t _ => T2 + T3 - (Go.RowKit.intOf t).toNat)
        case atStart => exact ⟨0, Nat.zero_le _, rfl, Below.refl _ _⟩
        case round =>
          obtain ⟨j, hj, rfl, hBi⟩ := hrel
          by_cases hlt2 : j < T2 + T3
          · have hltI2 : (j : Int) < (T2 : Int) + (T3 : Int) := by omega
            obtain ⟨y, hy⟩ := at_some hn hlt2
            have hym := List.mem_of_getElem? hy
            have hyb := HXL.out y hym
            obtain ⟨g, c, e, _, _, hcell⟩ := natC_at (rowI_below HAP.out hBi) (by omega)
            have hc := hcell j y hy
            simp only [Value.slice.injEq] at e
            obtain ⟨rfl, _, rfl⟩ := e
            have hKi := hKA.below hBi
            have hPi := hPA.below hBi
            have hNi := hNA.same (hBi.block mb hNA.lt)
            obtain ⟨v, nd, hMv, hfar, hr1, hr2, hr3⟩ := HRD.out _ y hKi hym
            have kR := read_any hPi ((y : Nat) : Int) (by omega) (by omega)
            rw [hr1, hr2] at kR
            unfold ptr at kR
            rw [hbq'] at kR
            have hmd : ((y : Nat) : Int) % 4294967296 = ((y : Nat) : Int) := by omega
            clear hcell
            go_wp2_with fail
            refine kR.mono ?_
            clear kR
            rintro e x1 ⟨u, rfl, hown, hb1x⟩
            obtain ⟨r1, r2, r3, rfl, o1, o2, o3⟩ := id hown
            obtain ⟨r1, t1, rfl⟩ := row_slice o1
            obtain ⟨r2, t2, rfl⟩ := row_slice o2
            obtain ⟨r3, t3, rfl⟩ := row_slice o3
            have hba2 := (Below.refl x1.heap.size x1).alloc (Nat.le_refl _) (.cells #[.bool nd.leaf, .slice r1 nd.pairs.length t1, .slice r2 nd.keys.length t2, .slice r3 nd.kids.length t3] 40)
            have hbx := hb1x.trans (hba2.mono hb1x.size)
            have hlook := (hNi.same (hbx.block mb hNi.lt)).read (i := ((y : Nat) : Int)) (by omega) (by omega) hMv
            have hfx := hfar.moves (Moves.of_below hbx)
            have hA1 := (hown.below hba2).at hr3
            have hA2 := hfx.own.at hr3
            have kSm := same_any _ _ _ nd hA1 hA2
            obtain ⟨f1, f2, f3, rfl, p1, p2, p3, _⟩ := id hfx
            obtain ⟨f1, z1, rfl⟩ := row_slice p1
            obtain ⟨f2, z2, rfl⟩ := row_slice p2
            obtain ⟨f3, z3, rfl⟩ := row_slice p3
            have hBx : Below w10.heap.size w10 (x1.alloc (.cells #[.bool nd.leaf, .slice r1 nd.pairs.length t1, .slice r2 nd.keys.length t2, .slice r3 nd.kids.length t3] 40)) := hBi.trans (hbx.mono hBi.size)
            clear hown o1 o2 o3 p1 p2 p3 hfx hfar hA1 hA2 hKi hPi hNi hba2 hbx
            generalize nd.leaf = l0 at *
            generalize nd.pairs.length = l1 at *
            generalize nd.keys.length = l2 at *
            generalize nd.kids.length = l3 at *
            go_wp2_with fail
            refine kSm.mono ?_
            clear kSm
            rintro e x2 ⟨rfl, hb2x⟩
            have hBy := hBx.trans (hb2x.mono hBx.size)
            go_wp2_with fail
            go_roundw
            case rel => exact ⟨j + 1, by omega, by go_num, hBy⟩
            case measure => simp [Go.RowKit.intOf]; omega
          · have hltI2 : ¬ (j : Int) < (T2 : Int) + (T3 : Int) := by omega
            have hPi := hPA.below hBi
            have hNi := hNA.same (hBi.block mb hNA.lt)
            have hKi := hKA.below hBi
            have hBB := hBA.trans (hBi.mono hBA.size)
            clear hPA hNA hKA
            go_wp2_with fail
            go_roundw
            case rel => exact ⟨k + 1, b', P', M', n', by omega, by go_num, hPi, hon', hbq', hBB, hba', hNi, hn', hmb'', hKi⟩
            case measure => simp [Go.RowKit.intOf]; omega
    · obtain rfl : k = len := by omega
      have hltI : ¬ (k : Int) < k := by omega
      clear hoc
      go_wp2
      go_ret
      exact ⟨rfl, hbr⟩

/-! ### The row -/
set_option maxRecDepth 100000 in
theorem lifted (os : Os) (started : os.Started) (H : Type) (enc : TypeId × Value → H) :
    ReturnsInHanded {} Tryz.checked os 4 .any (Rows.poolKeepsSpec.pre6 enc Tryz.prog Tryz.f4 Rows.poolKeepsRow.domain false) (Rows.poolKeepsSpec.post enc Tryz.prog Tryz.f4 false true false false) := by
  refine returnsInHanded_of_change_sized (C := Tryz.checked) own started (by kernel_rfl) Tryz.func4
    (ChangeSpec.witness6 (enc := enc) (C := Tryz.checked) false ⟨#[], #[.slice none 0 0], []⟩ 8 (by kernel_rfl) (by kernel_rfl) (by kernel_rfl) (by kernel_rfl)) ?_
  intro W base args ds gs before hval0 hW hcnd hsz0 _
  have hsz : (DataW.weightsEach Tryz.prog (Tryz.f4.params.toList ++ Rows.poolKeepsSpec.plain.varTypes Tryz.prog) (ds ++ gs)).all (· ≤ reachBytes) = true := hsz0
  clear hsz0
  have hval : ∀ (j : Nat) t v, Tryz.f4.params[j]? = some t → args[j]? = some v → Value.okWide Tryz.prog W .any base t v := hval0
  have hW' := hW
  obtain ⟨p, q, hA0, hV, rfl, hfz, hnd⟩ := hW
  have hA : DataW.TrodAll enc Tryz.prog W 0 (fun _ => true) true Tryz.f4.params.toList args.toList ds p := hA0
  rw [Tryz.params4] at hA hval hsz
  obtain ⟨v0, vs0, d0, ds0, p0, q0, hargs, rfl, rfl, h0, r0⟩ := trodAll_cons hA
  obtain ⟨rfl, rfl, rfl⟩ := trodAll_nil r0
  obtain rfl : args = #[v0] := by cases args; simp_all
  obtain ⟨rfl, rfl⟩ := trodVars_none hV
  obtain ⟨a0, len0, cap0, rfl⟩ := okWide_slice Tryz.underlying23 (hval 0 23 v0 rfl rfl)
  have k0 := h0
  have lt0 : ∀ x ∈ p0, x.block < W.heap.size := by obtain ⟨m, hm⟩ := k0; exact DataW.trod_lt m _ _ _ hm
  obtain ⟨o0, w0⟩ : ∃ os, PopsAt W a0 len0 cap0 os := by
    obtain ⟨fuel, hf⟩ := h0
    exact popsAt_of hf (fun n hn => of_decide_eq_true (List.all_eq_true.1 hsz n (DataW.weights_mem_each (j := 0) rfl rfl n hn)))
  clear hA0 hval0
  refine (walk a0 len0 cap0 o0 W w0).mono fun e W' ⟨he, bel⟩ => ?_
  subst he
  exact ⟨_, rfl, _, _, _, [], _, [], hW', trodAll_mk1 (shut_bool Tryz.underlying4 _), (trodAll_cons_mk (Below.trod laidOut (by kernel_rfl) (of_decide_eq_true (by kernel_rfl)) k0 bel lt0) trodAll_mk0), rfl, bel.frame _, fun h => by cases h⟩

theorem over : Rows.poolKeepsRow.holds Tryz.pinned (OpenSpec.ofChange Rows.poolKeepsSpec) :=
  OpenClaim.holds_of_wide 4 Tryz.f4 rfl rfl rfl rfl rfl rfl rfl ⟨rfl, rfl, rfl, rfl, rfl⟩ rfl rfl rfl rfl rfl (by kernel_rfl) Tryz.func4 (by kernel_rfl)
    (of_decide_eq_true (by kernel_rfl)) (by unfold Func.isWrapper; first | (rw [if_pos (by decide +kernel)]; kernel_rfl) | (rw [if_neg (by decide +kernel)]; exact ⟨rfl, rfl⟩))
    (fun os started H enc _ => lifted os started H enc)

end Go.Proofs.YthgdbjpefjjeaaaGreat.poolKeeps

namespace Go.Proofs.YthgdbjpefjjeaaaGreat
/-- The statement. -/
theorem poolKeeps_proved : Rows.PoolKeepsSaid := poolKeeps.over
#print axioms poolKeeps_proved
end Go.Proofs.YthgdbjpefjjeaaaGreat
