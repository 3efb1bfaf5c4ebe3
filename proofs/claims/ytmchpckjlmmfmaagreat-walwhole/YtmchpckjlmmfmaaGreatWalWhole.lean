/- Proved: WalWhole: each record that is found is a group that was appended, with all its texts, and in the order in which they were; for every input, without a condition. -/
import Derived.Test.YtmchpckjlmmfmaaGreatWAll
import Derived.Test.YtmchpckjlmmfmaaGreatMW13
import Derived.Test.YtmchpckjlmmfmaaGreatWBegins
import Derived.Test.YtmchpckjlmmfmaaGreatWOps
import Derived.Deep.RegionHeld3
import Derived.BigQuiet
import Derived.Deep.QuietTactic
import Derived.WalkSmall
import Derived.ProofKit
import Derived.OpenShut
import Derived.ShutString
import Derived.ChangeOld
import Derived.Below
import Derived.Carry
import Derived.SizedLaws
import Derived.Deep.CutRange
import Derived.Deep.CutBlock
namespace Go.Proofs.YtmchpckjlmmfmaaGreat.walWhole
open Go.ChangeShapes Go.WideShapes Go.ChangeAt Go.RowKit
open Go.ChangeMaps (open_string shut_string)
set_option linter.unusedVariables false
set_option linter.unusedSimpArgs false

theorem own : ownKnob Tryz.prog.godebug = none := by kernel_rfl
theorem laidOut : laidOutB Tryz.prog = true := by kernel_rfl

theorem mod_small (x m : Int) (hm : 0 < m) (hm2 : m ≤ 1000) (h1 : -9223372036854775808 ≤ x) (h2 : x ≤ 9223372036854775807) : ∃ r : Nat, (wrap64 (x.tmod m + m)).tmod m = (r : Int) ∧ (r : Int) < m := by
  obtain ⟨y, hy⟩ : ∃ y, x.tmod m = y := ⟨_, rfl⟩
  have hy1 : y < m := by rw [← hy]; exact Int.tmod_lt_of_pos _ hm
  have hy2 : -m < y := by rw [← hy]; have := Int.lt_tmod_of_pos x hm; omega
  have e1 : wrap64 (y + m) = y + m := by unfold wrap64; omega
  rw [hy, e1]
  have h3 : 0 ≤ (y + m).tmod m := Int.tmod_nonneg _ (by omega)
  have h4 : (y + m).tmod m < m := Int.tmod_lt_of_pos _ hm
  exact ⟨((y + m).tmod m).toNat, by omega, by omega⟩

/-- Behind the loop. -/
def WholeEnd (B : Nat) (w : World) (p : Nat) (wx : World) (v : Value) : Prop :=
  ∃ BG rs gs, AllAt B wx v BG rs gs ∧ rs.length ≤ 100 ∧ Below B w wx ∧ ((∃ q nx dn, LogV B (xaL B v BG) wx q p 3 50 true nx dn rs ∧ nx ≤ 1000 ∧ fromR nx rs = 0) ∨ (∃ k nx' M, LeftV B (xaL B v BG) wx p 3 50 true false M 0 nx' (rs.take k) ∧ M ≤ 2000))

set_option maxRecDepth 100000 in
set_option maxHeartbeats 8000000 in
theorem walk (a : Option Addr) (len cap : Nat) (os : List WopV) (n : Int) (mask : ByteArray) (w : World) (ho : WopsAt w a len cap os) (hn : (Lit.int .i64 n).wf = true) (hm : mask.size ≤ maxLen) :
    Calls Tryz.prog 7 #[.slice a len cap, .int .i64 n, .string mask] w fun e w' => e = .returned (.bool true) ∧ Below w.heap.size w w' := by
  obtain ⟨hn0, hn1⟩ := bounds_i64 hn
  clear hn
  have hlc := ho.2.1
  have hcm := ho.2.2.1
  have HM : Hid (mask.size ≤ maxLen) := hm
  unfold maxLen at hcm hm
  have HO : Hid (WopsAt w a len cap os) := ho
  clear ho
  obtain ⟨F, hF, hF60⟩ := mod_small n 60 (by decide) (by decide) hn0 hn1
  have HF : Hid _ := hF
  have cl := live_any w
  clear hF hn0 hn1
  go_enter Tryz.func7, Tryz.ntmps7
  go_wp2_with fail
  refine cl.mono ?_
  rintro e0 w0 ⟨rfl, b0⟩
  clear cl
  have s0 := b0.size
  have c1 := disk_New w0 60 (by decide) (by decide)
  unfold ptr at c1
  go_wp2_with fail
  refine c1.mono ?_
  rintro f1 w1 ⟨rfl, d1, b1, s1⟩
  clear c1
  have HB1 : Hid (Below w.heap.size w w1) := b0.trans (b1.mono s0)
  by_cases hbig : 3000 < mask.size
  · have hbI : (3000 : Int) < mask.size := by omega
    clear d1 b0 b1
    go_wp2
    go_ret
    exact ⟨rfl, HB1.out⟩
  have hbI : ¬ (3000 : Int) < mask.size := by omega
  have c2 := make_v (B := w.heap.size) (X := []) d1 rfl rfl 3 50 (by decide) (by decide) (by decide) (by decide) (by omega) (by omega) (by omega) (by omega) (fun k hk => by cases hk)
  unfold ptr ptrW at c2
  go_wp2_with fail
  refine c2.mono ?_
  rintro f2 w2 ⟨k2, q, rfl, q2, l2⟩
  clear c2
  have HB2 : Hid (Below w.heap.size w w2) := HB1.out.trans (k2.below (by omega))
  have s2 := k2.size
  clear d1 b0 b1 k2 HB1 hbig
  by_cases hmany : 100 < len
  · have hmI : (100 : Int) < len := by omega
    clear l2
    go_wp2
    go_ret
    exact ⟨rfl, HB2.out⟩
  have hmI : ¬ (100 : Int) < len := by omega
  have hl100 : len ≤ 100 := by omega
  clear hmany
  have ca := arm_v l2 F (by omega) (by omega) mask HM.out
  unfold ptr at ca
  clear l2
  go_wp2_with fail
  (try rw [HF.out])
  refine ca.mono ?_
  rintro f3 w3 ⟨rfl, k3, l3⟩
  clear ca
  have HB3 : Hid (Below w.heap.size w w3) := HB2.out.trans (k3.below (by omega))
  have s3 := k3.size
  have HL3 : Hid (LogV w.heap.size [] w3 q (w0.heap.size + 2) 3 50 true 0 0 []) := l3
  clear l3 k3 HB2
  go_upto_block 0 with fail
  go_cut [12, 14, 15, 16, 17, 18] from 73 to 109 (fun all _ _ _ _ _ wx => WholeEnd w.heap.size w (w0.heap.size + 2) wx all)
  case first =>
    go_wp2_with fail
    go_loopw [12, 73] (fun all t wr => ∃ (k nx dn : Nat) (v : Value) (rs : List Rc) (gs : List Value) (BG : List Nat), k ≤ len ∧ t = .int .i64 k ∧ v = all ∧ nx ≤ 9 * k ∧ rs.length ≤ k ∧ Hid (AllAt w.heap.size wr v BG rs gs) ∧ Hid (LogV w.heap.size (xaL w.heap.size v BG) wr q (w0.heap.size + 2) 3 50 true nx dn rs) ∧ Hid (fromR nx rs = 0) ∧ Hid (Below w.heap.size w wr)) (fun _ t _ => len - (RowKit.intOf t).toNat)
    case atStart => exact ⟨0, 0, 0, _, [], [], [], Nat.zero_le _, rfl, rfl, Nat.zero_le _, Nat.zero_le _, AllAt.nil _ _, HL3, rfl, HB3⟩
    case round =>
      clear HL3 HB3
      obtain ⟨k, nx, dn, v, rs, gs, BG, hk, rfl, hv0, hnx, hrl, HA, HL, HZ, HBR⟩ := hrel
      subst hv0
      by_cases hlt : k < len
      · have hltI : (k : Int) < len := by omega
        obtain ⟨b, off, o, Bo, rfl, hoo, hoa, hor, hob, _⟩ := wop_at HO.out HBR.out k hlt
        have y0 := hoa.c0
        have y1 := hoa.c1
        have y2 := hoa.c2
        have y3 := hoa.c3
        have HOO : Hid (WopOk o) := hoo
        have HOR : Hid (RdT Bo wr o.v3 o.f3) := hor
        have HBO : Hid (∀ j ∈ Bo, j < w.heap.size) := hob
        clear hoo hoa hor hob
        obtain ⟨f0, f1, f2, v3, f3, b3⟩ := o
        dsimp only at *
        obtain ⟨ov, oc, hv3, _⟩ := id HOR.out
        subst hv3
        obtain ⟨va, vc, hvs⟩ := rowS_slice HA.out.own
        subst hvs
        have hszr := HBR.out.size
        obtain ⟨wq, hwq⟩ : ∃ wq, wr.alloc (.cells #[.int .i64 f0, .int .i64 f1, .int .i64 f2, .slice ov f3.length oc] 44) = wq := ⟨_, rfl⟩
        have hbq : Below wr.heap.size wr wq := by rw [← hwq]; exact (Below.refl _ wr).alloc (Nat.le_refl _) _
        have hrow : wq.heap[wr.heap.size]? = some (.cells #[.int .i64 f0, .int .i64 f1, .int .i64 f2, .slice ov f3.length oc] 44 (0, 0)) := by rw [← hwq]; exact heap_alloc_new wr _
        have sq := hbq.size
        obtain ⟨t1, t2⟩ := timesN_ok f2 HOO.out.a2.1 HOO.out.a2.2
        have cg := group_at f0 f1 f2 (.slice ov f3.length oc) f3 (HOR.out.below hbq) (timesN f2) t1 t2
        have hLs0 : ∀ y ∈ groupL f3 (timesN f2), y.size ≤ 140737488351232 := fun y hy => HOO.out.a3 y (groupL_mem hy)
        obtain ⟨L, hL⟩ : ∃ L, groupL f3 (timesN f2) = L := ⟨_, rfl⟩
        rw [hL] at cg hLs0
        have HLs : Hid (∀ y ∈ L, y.size ≤ 140737488351232) := hLs0
        have q0 : wq.cell? ⟨wr.heap.size, 0, none⟩ = some (.int .i64 f0) := by rw [cell_of_row _ _ 0 _ _ (0, 0) hrow]; rfl
        have q1 : wq.cell? ⟨wr.heap.size, 1, none⟩ = some (.int .i64 f1) := by rw [cell_of_row _ _ 1 _ _ (0, 0) hrow]; rfl
        have q2 : wq.cell? ⟨wr.heap.size, 2, none⟩ = some (.int .i64 f2) := by rw [cell_of_row _ _ 2 _ _ (0, 0) hrow]; rfl
        have q3 : wq.cell? ⟨wr.heap.size, 3, none⟩ = some (.slice ov f3.length oc) := by rw [cell_of_row _ _ 3 _ _ (0, 0) hrow]; rfl
        have HROW : Hid _ := hrow
        have HBQ : Hid (Below wr.heap.size wr wq) := hbq
        have slt : wr.heap.size < wq.heap.size := (Array.getElem?_eq_some_iff.1 hrow).1
        clear hrow hbq HOR t1 t2 hL hLs0
        go_wp2_with fail
        (try rw [hwq])
        refine cg.mono ?_
        rintro e2 w2' ⟨v2, B2, rfl, hr2, hB2, hb2⟩
        clear cg y0 y1 y2 y3 q0 q1 q2 q3 hwq
        have hr2' := hr2.trim
        obtain ⟨B3, hB3e⟩ : ∃ B3, (B2.filter fun k => decide (k < w2'.heap.size)) = B3 := ⟨_, rfl⟩
        rw [hB3e] at hr2'
        have hB3 : ∀ k ∈ B3, k < w2'.heap.size ∧ (k < w.heap.size ∨ wr.heap.size ≤ k) := fun k hk => by
          rw [← hB3e] at hk
          obtain ⟨z1, z2⟩ := List.mem_filter.1 hk
          refine ⟨by simpa using z2, ?_⟩
          rcases hB2 k z1 with z | z
          · exact .inl (HBO.out k z)
          · right; omega
        have HR2 : Hid (RdT B3 w2' v2 L) := hr2'
        obtain ⟨a2, cp2, rfl, hcp, _⟩ := hr2
        have s2' := hb2.size
        have hbr2 : Below wr.heap.size wr w2' := HBQ.out.trans (hb2.mono sq)
        have HBW2 : Hid (Below w.heap.size w w2') := HBR.out.trans (hbr2.mono hszr)
        have row2 : w2'.heap[wr.heap.size]? = _ := (hb2.block _ slt).trans HROW.out
        have HA2 : Hid (AllAt w.heap.size w2' (.slice va rs.length vc) (BG ++ B3) rs gs) := (HA.out.below hbr2).more B3 (fun k hk e => by
          have z1 := HA.out.ownlt k e
          have z2 := (hB3 k hk).2
          omega) (fun k hk => (hB3 k hk).1)
        have HL2 : Hid (LogV w.heap.size (xaL w.heap.size (.slice va rs.length vc) (BG ++ B3)) w2' q (w0.heap.size + 2) 3 50 true nx dn rs) := HL.out.below hbr2 _ (fun k hk => by
          rcases xaL_mem.1 hk with e | ⟨e1, e2⟩
          · have := (HA.out.ownlt k e).2
            exact ⟨.inl (xaL_mem.2 (.inl e)), by omega⟩
          · rcases List.mem_append.1 e1 with z | z
            · have := HA.out.lt k z
              exact ⟨.inl (xaL_mem.2 (.inr ⟨z, e2⟩)), by omega⟩
            · have := hB3 k z
              exact ⟨.inr (by omega), this.1⟩)
        have r0 : w2'.cell? ⟨wr.heap.size, 0, none⟩ = some (.int .i64 f0) := by rw [cell_of_row _ _ 0 _ _ (0, 0) row2]; rfl
        have HBB3 : Hid (∀ k ∈ B3, k < w.heap.size ∨ k ∈ xaL w.heap.size (.slice va rs.length vc) (BG ++ B3)) := fun k hk => by
          by_cases hkb : k < w.heap.size
          · exact .inl hkb
          · exact .inr (xaL_mem.2 (.inr ⟨List.mem_append_right _ hk, by omega⟩))
        clear hr2' hB2 hB3e hb2 HBQ row2 hbr2
        have clg := long_both HR2.out HLs.out
        go_wp2_with fail
        refine clg.mono ?_
        rintro e3 w3' ⟨rfl, rfl⟩
        clear clg
        cases hlg : longB L
        · have cnx := next_v HL2.out
          unfold ptrW at cnx
          have HLG : Hid (longB L = false) := hlg
          go_wp2_with fail
          refine cnx.mono ?_
          rintro e3 w3' ⟨rfl, rfl⟩
          clear cnx
          by_cases hf1 : f0 = 1
          · subst hf1
            have cy := sync_v HL2.out
            unfold ptrW at cy
            go_wp2_with fail
            refine cy.mono ?_
            rintro e4 w4 ⟨k4, ⟨rfl, hv⟩ | ⟨_, rfl, kk, nx', hk1, hk2, hv⟩⟩
            · have s4 := k4.size
              have HA4 : Hid (AllAt w.heap.size w4 (.slice va rs.length vc) (BG ++ B3) rs gs) := HA2.out.keepX k4
              have HBW4 : Hid (Below w.heap.size w w4) := HBW2.out.trans (k4.below (by omega))
              have con := on_v hv
              unfold ptr at con
              have HV : Hid (LogV w.heap.size (xaL w.heap.size (.slice va rs.length vc) (BG ++ B3)) w4 q (w0.heap.size + 2) 3 50 true nx rs.length rs) := hv
              clear hv k4 cy r0
              go_wp2_with fail
              refine con.mono ?_
              rintro e7 w7 ⟨rfl, rfl⟩
              clear con
              go_wp2_with fail
              refine ⟨⟨k + 1, nx, rs.length, _, rs, gs, BG ++ B3, by omega, by go_num, rfl, by omega, by omega, HA4, HV, HZ, HBW4⟩, ?_⟩
              simp [RowKit.intOf]; omega
            · have s4 := k4.size
              have hv0 : LeftV w.heap.size (xaL w.heap.size (.slice va rs.length vc) (BG ++ B3)) w4 (w0.heap.size + 2) 3 50 true false nx 0 nx' (rs.take kk) := by rw [HZ.out] at hv; exact hv
              have con := on_left hv0
              unfold ptr at con
              have HE : Hid (WholeEnd w.heap.size w (w0.heap.size + 2) w4 (.slice va rs.length vc)) := ⟨BG ++ B3, rs, gs, HA2.out.keepX k4, by omega, HBW2.out.trans (k4.below (by omega)), .inr ⟨kk, nx', nx, hv0, by omega⟩⟩
              clear hv hv0 k4 cy r0
              go_wp2_with fail
              refine con.mono ?_
              rintro e7 w7 ⟨rfl, rfl⟩
              clear con
              go_wp2_with fail
              go_meet
              exact HE.out
          · have hf1' : (f0 == 1) = false := by simpa using hf1
            have cy := append_case HL2.out (by omega) HR2.out (fun y hy => by have := HLs.out y hy; omega)
            unfold ptrW at cy
            have hP9 := long_pieces hlg
            go_wp2_with fail
            refine cy.mono ?_
            rintro e4 w4 ⟨N0, E0, rfl, k4, hcase⟩
            have s4 := k4.size
            have HA4 : Hid (AllAt w.heap.size w4 (.slice va rs.length vc) (BG ++ B3) rs gs) := HA2.out.keepX k4
            have HR4 : Hid (RdT B3 w4 (.slice a2 L.length cp2) L) := HR2.out.keep k4.size (fun k hk hl => k4.block k hl (HBB3.out k hk))
            have HBW4 : Hid (Below w.heap.size w w4) := HBW2.out.trans (k4.below (by omega))
            have HX5 : Hid (∀ k ∈ xaL w.heap.size (.slice va rs.length vc) (BG ++ B3), ∀ w5 : World, w4.heap.size ≤ w5.heap.size → k < w5.heap.size) := fun k hk w5 h5 => by
              rcases xaL_mem.1 hk with e | ⟨e1, e2⟩
              · have := (HA4.out.ownlt k e).2; omega
              · have := HA4.out.lt k e1; omega
            clear k4 cy r0
            rcases hcase with ⟨hl2, _⟩ | ⟨_, _, rfl, rfl, hv⟩ | ⟨_, rfl, rfl, hv⟩ | ⟨_, _, rfl, rfl, kk, nx', hk1, hk2, hv⟩
            · rw [hlg] at hl2; cases hl2
            · have con := on_v hv
              unfold ptr at con
              have HV : Hid (LogV w.heap.size (xaL w.heap.size (.slice va rs.length vc) (BG ++ B3)) w4 q (w0.heap.size + 2) 3 50 true nx dn rs) := hv
              clear hv
              go_wp2_with fail
              refine con.mono ?_
              rintro e7 w7 ⟨rfl, rfl⟩
              clear con
              go_wp2_with fail
              refine ⟨⟨k + 1, nx, dn, _, rs, gs, BG ++ B3, by omega, by go_num, rfl, by omega, by omega, HA4, HV, HZ, HBW4⟩, ?_⟩
              simp [RowKit.intOf]; omega
            · generalize hP : piecesN (layL L).length = P at *
              obtain ⟨w5, hw5⟩ : ∃ w5, w4.alloc (.cells #[.int .u64 nx, .slice a2 L.length cp2] 62) = w5 := ⟨_, rfl⟩
              have hb5 : Below w4.heap.size w4 w5 := by rw [← hw5]; exact (Below.refl _ w4).alloc (Nat.le_refl _) _
              have hr5 : w5.heap[w4.heap.size]? = some (.cells #[.int .u64 nx, .slice a2 L.length cp2] 62 (0, 0)) := by rw [← hw5]; exact heap_alloc_new w4 _
              have s5 := hb5.size
              have hA5 := HA4.out.below hb5
              have hR5 : RdT (BG ++ B3) w5 (.slice a2 L.length cp2) L := (HR4.out.below hb5).mono (fun k hk => List.mem_append_right _ hk)
              have hV5 := hv.below hb5 (xaL w.heap.size (.slice va rs.length vc) (BG ++ B3)) (fun k hk => ⟨.inl hk, HX5.out k hk w5 s5⟩)
              have HB5 : Hid (Below w.heap.size w w5) := HBW4.out.trans (hb5.mono (by omega))
              have HV5 : Hid (LogV w.heap.size (xaL w.heap.size (.slice va rs.length vc) (BG ++ B3)) w5 q (w0.heap.size + 2) 3 50 true (nx + P) dn (rs ++ [(⟨nx, L⟩ : Rc)])) := hV5
              have HA5 : Hid (AllAt w.heap.size w5 (.slice va rs.length vc) (BG ++ B3) rs gs) := hA5
              clear hb5 hV5 hv
              go_wp2_with (at_builtin; refine wpList_append_all rfl _ _ rfl w.heap.size (.slice va rs.length vc) (BG ++ B3) rs gs rfl (by first | exact hA5 | (rw [hw5]; exact hA5)) w4.heap.size nx (.slice a2 L.length cp2) L rfl (by first | exact hr5 | (rw [hw5]; exact hr5)) (by first | exact hR5 | (rw [hw5]; exact hR5)) (by omega) (by first | omega | (rw [hw5]; omega)) ?_; intro v6 w6 hA6 hg6 ho6; (try rw [hw5] at hg6); (try rw [hw5] at ho6))
              have hS6 : Sole (Value.slice va rs.length vc).ownBlock.toList w5 w6 := ⟨hg6.os, hg6.tape, hg6.output, hg6.size, fun k hk hn => hg6.block k hk (fun e => hn (by rw [Option.mem_toList]; exact e.symm))⟩
              have s6 := hS6.size
              have hX6 : ∀ k ∈ xaL w.heap.size v6 (BG ++ B3), (k ∈ xaL w.heap.size (.slice va rs.length vc) (BG ++ B3) ∨ w5.heap.size ≤ k) ∧ k < w6.heap.size := fun k hk => by
                rcases xaL_mem.1 hk with e | ⟨e1, e2⟩
                · have := (hA6.ownlt k e).2
                  rcases ho6 k e with z | z
                  · exact ⟨.inl (xaL_mem.2 (.inl z)), this⟩
                  · exact ⟨.inr z, this⟩
                · exact ⟨.inl (xaL_mem.2 (.inr ⟨e1, e2⟩)), hA6.lt k e1⟩
              have hV6 := LogV.grow HV5.out hS6 HA5.out.typed _ hX6
              have HB6 : Hid (Below w.heap.size w w6) := hS6.belowOf HB5.out (by omega) (fun k hk => by rw [Option.mem_toList] at hk; exact (HA5.out.ownlt k hk).1)
              have HA6 : Hid (AllAt w.heap.size w6 v6 (BG ++ B3) (rs ++ [(⟨nx, L⟩ : Rc)]) (gs ++ [.slice a2 L.length cp2])) := hA6
              have con := on_v hV6
              have HV6 : Hid (LogV w.heap.size (xaL w.heap.size v6 (BG ++ B3)) w6 q (w0.heap.size + 2) 3 50 true (nx + P) dn (rs ++ [(⟨nx, L⟩ : Rc)])) := hV6
              unfold ptr at con
              clear hV6 hA6 hX6 hS6 hg6 ho6 hA5 hr5 hR5 hw5 HA5 HV5 HB5
              go_wp2_with fail
              refine con.mono ?_
              rintro e7 w7 ⟨rfl, rfl⟩
              clear con
              go_wp2_with fail
              refine ⟨⟨k + 1, nx + P, dn, v6, rs ++ [⟨nx, L⟩], gs ++ [.slice a2 L.length cp2], BG ++ B3, by omega, by go_num, rfl, by omega, by rw [List.length_append]; simp; omega, HA6, HV6, by unfold Hid; rw [fromR_app]; exact HZ.out, HB6⟩, ?_⟩
              simp [RowKit.intOf]; omega
            · rw [HZ.out] at hv
              obtain ⟨w5, hw5⟩ : ∃ w5, w4.alloc (.cells #[.int .u64 nx, .slice a2 L.length cp2] 62) = w5 := ⟨_, rfl⟩
              have hb5 : Below w4.heap.size w4 w5 := by rw [← hw5]; exact (Below.refl _ w4).alloc (Nat.le_refl _) _
              have hr5 : w5.heap[w4.heap.size]? = some (.cells #[.int .u64 nx, .slice a2 L.length cp2] 62 (0, 0)) := by rw [← hw5]; exact heap_alloc_new w4 _
              have s5 := hb5.size
              have hA5 := HA4.out.below hb5
              have hR5 : RdT (BG ++ B3) w5 (.slice a2 L.length cp2) L := (HR4.out.below hb5).mono (fun k hk => List.mem_append_right _ hk)
              have hV5 := hv.below hb5 (xaL w.heap.size (.slice va rs.length vc) (BG ++ B3)) (fun k hk => ⟨.inl hk, HX5.out k hk w5 s5⟩)
              have HB5 : Hid (Below w.heap.size w w5) := HBW4.out.trans (hb5.mono (by omega))
              have HV5 : Hid (LeftV w.heap.size (xaL w.heap.size (.slice va rs.length vc) (BG ++ B3)) w5 (w0.heap.size + 2) 3 50 true false (nx + piecesN (layL L).length) 0 nx' (List.take kk (rs ++ [(⟨nx, L⟩ : Rc)]))) := hV5
              have HA5 : Hid (AllAt w.heap.size w5 (.slice va rs.length vc) (BG ++ B3) rs gs) := hA5
              clear hb5 hV5 hv
              go_wp2_with (at_builtin; refine wpList_append_all rfl _ _ rfl w.heap.size (.slice va rs.length vc) (BG ++ B3) rs gs rfl (by first | exact hA5 | (rw [hw5]; exact hA5)) w4.heap.size nx (.slice a2 L.length cp2) L rfl (by first | exact hr5 | (rw [hw5]; exact hr5)) (by first | exact hR5 | (rw [hw5]; exact hR5)) (by omega) (by first | omega | (rw [hw5]; omega)) ?_; intro v6 w6 hA6 hg6 ho6; (try rw [hw5] at hg6); (try rw [hw5] at ho6))
              have hS6 : Sole (Value.slice va rs.length vc).ownBlock.toList w5 w6 := ⟨hg6.os, hg6.tape, hg6.output, hg6.size, fun k hk hn => hg6.block k hk (fun e => hn (by rw [Option.mem_toList]; exact e.symm))⟩
              have s6 := hS6.size
              have hX6 : ∀ k ∈ xaL w.heap.size v6 (BG ++ B3), (k ∈ xaL w.heap.size (.slice va rs.length vc) (BG ++ B3) ∨ w5.heap.size ≤ k) ∧ k < w6.heap.size := fun k hk => by
                rcases xaL_mem.1 hk with e | ⟨e1, e2⟩
                · have := (hA6.ownlt k e).2
                  rcases ho6 k e with z | z
                  · exact ⟨.inl (xaL_mem.2 (.inl z)), this⟩
                  · exact ⟨.inr z, this⟩
                · exact ⟨.inl (xaL_mem.2 (.inr ⟨e1, e2⟩)), hA6.lt k e1⟩
              have hV6 := LeftV.grow HV5.out hS6 (fun k hk => by obtain ⟨cs, t, fr, z1, z2, _⟩ := HA5.out.typed k hk; exact ⟨cs, t, fr, z1, z2⟩) _ hX6
              have HB6 : Hid (Below w.heap.size w w6) := hS6.belowOf HB5.out (by omega) (fun k hk => by rw [Option.mem_toList] at hk; exact (HA5.out.ownlt k hk).1)
              have HA6 : Hid (AllAt w.heap.size w6 v6 (BG ++ B3) (rs ++ [(⟨nx, L⟩ : Rc)]) (gs ++ [.slice a2 L.length cp2])) := hA6
              have con := on_left hV6
              unfold ptr at con
              have HE : Hid (WholeEnd w.heap.size w (w0.heap.size + 2) w6 v6) := ⟨BG ++ B3, _, _, hA6, by rw [List.length_append]; simp; omega, HB6.out, .inr ⟨kk, nx', _, hV6, by omega⟩⟩
              clear hV6 hA6 hX6 hS6 hg6 ho6 hA5 hr5 hR5 hw5 HA5 HV5 HB5 HA6
              go_wp2_with fail
              refine con.mono ?_
              rintro e7 w7 ⟨rfl, rfl⟩
              clear con
              go_wp2_with fail
              go_meet
              exact HE.out
        · have HL2b := HL2
          clear r0
          go_wp2_with fail
          refine ⟨⟨k + 1, nx, dn, _, rs, gs, BG ++ B3, by omega, by go_num, rfl, by omega, by omega, HA2, HL2b, HZ, HBW2⟩, ?_⟩
          simp [RowKit.intOf]; omega
      · have hltI : ¬ (k : Int) < len := by omega
        have HE : Hid (WholeEnd w.heap.size w (w0.heap.size + 2) wr v) := ⟨BG, rs, gs, HA.out, by omega, HBR.out, .inl ⟨q, nx, dn, HL.out, by omega, HZ.out⟩⟩
        clear HA HL
        go_wp2_with fail
        go_meet
        exact HE.out
  case rest =>
    clear HL3 HB3 HO
    obtain ⟨BG, rs, gs, hA, hrl, hBe, hend⟩ := hcut
    obtain ⟨va, vc, hvs⟩ := rowS_slice hA.own
    subst hvs
    have hsz := hBe.size
    have cc : Calls Tryz.prog 10 #[ptr (w0.heap.size + 2), .string mask] wc fun e w' => e = .returned (.tuple #[]) ∧ KeepX w.heap.size (xaL w.heap.size (.slice va rs.length vc) BG) wc w' ∧ ∃ j nx' M, j ≤ rs.length ∧ LeftV w.heap.size (xaL w.heap.size (.slice va rs.length vc) BG) w' (w0.heap.size + 2) 3 50 true false M 0 nx' (rs.take j) ∧ M ≤ 2000 := by
      rcases hend with ⟨q', nx, dn, hl, hn, hz⟩ | ⟨kk, nx', M, hl, hM⟩
      · refine (cut_v hl mask HM.out).mono ?_
        rintro e w' ⟨rfl, hk, k, nx', _, hk2, hv⟩
        rw [hz] at hv
        exact ⟨rfl, hk, k, nx', nx, hk2, hv, by omega⟩
      · refine (cut_left_v hl mask).mono ?_
        rintro e w' ⟨rfl, rfl⟩
        by_cases hkk : kk ≤ rs.length
        · exact ⟨rfl, KeepX.refl _ _ _, kk, nx', M, hkk, hl, hM⟩
        · rw [List.take_of_length_le (by omega)] at hl
          exact ⟨rfl, KeepX.refl _ _ _, rs.length, nx', M, Nat.le_refl _, by rw [List.take_length]; exact hl, hM⟩
    have HA : Hid (AllAt w.heap.size wc (.slice va rs.length vc) BG rs gs) := hA
    have HBE : Hid (Below w.heap.size w wc) := hBe
    unfold ptr at cc
    clear hend hA hBe
    go_wp2_with fail
    refine cc.mono ?_
    rintro e4 w4 ⟨rfl, k4, j, nx', M, hj, l4, hM⟩
    clear cc
    have HA4 : Hid (AllAt w.heap.size w4 (.slice va rs.length vc) BG rs gs) := HA.out.keepX k4
    have HB4 : Hid (Below w.heap.size w w4) := HBE.out.trans (k4.below (by omega))
    have s4 := k4.size
    have cp := power_v l4
    unfold ptr at cp
    clear l4 k4 HA HBE
    go_wp2_with fail
    refine cp.mono ?_
    rintro e5 w5 ⟨rfl, k5, l5⟩
    clear cp
    have HA5 : Hid (AllAt w.heap.size w5 (.slice va rs.length vc) BG rs gs) := HA4.out.keepX k5
    have HB5 : Hid (Below w.heap.size w w5) := HB4.out.trans (k5.below (by omega))
    have s5 := k5.size
    have co := open_left l5 (by omega)
    unfold ptr ptrW at co
    clear l5 k5 HA4 HB4
    go_wp2_with fail
    refine co.mono ?_
    rintro e6 w6 ⟨k6, ⟨q6, rv, rfl, hq6, l6, r6, _⟩ | ⟨ha, _⟩⟩
    case inr => cases ha
    clear co
    have hA6 : AllAt w.heap.size w6 (.slice va rs.length vc) BG rs gs := HA5.out.keepX k6
    have HB6 : Hid (Below w.heap.size w w6) := HB5.out.trans (k6.below (by omega))
    have s6 := k6.size
    obtain ⟨a6, cap6, S6, rfl, z1, z2, z3, z4⟩ := recs_own r6
    have hlj : (rs.take j).length = j := by rw [List.length_take]; omega
    have hrd := RdR.take hA6.rdR j hj
    have hvc : rs.length ≤ vc := by
      obtain ⟨a', c', e', z, _⟩ := hA6.rdR
      simp only [Value.slice.injEq] at e'
      omega
    have hvm : vc ≤ 9223372036854775807 := by
      obtain ⟨a', c', e', _, z, _⟩ := hA6.rdR
      simp only [Value.slice.injEq] at e'
      unfold maxLen at z
      omega
    have hSB : ∀ k ∈ S6, k ∉ ownB (.slice va rs.length vc) ++ BG := fun k hk hm2 => by
      have := (z4 k hk).1
      rcases List.mem_append.1 hm2 with e | e
      · have := (HA5.out.ownlt k (mem_ownB.1 e)).2; omega
      · have := HA5.out.lt k e; omega
    have ck := known_eq z1 z2 z3 hrd hSB
    rw [hlj] at ck ⊢
    rw [hlj] at z1
    have HB6b := HB6
    have hZ4 : ∀ k ∈ S6, w.heap.size ≤ k := fun k hk => by have := (z4 k hk).1; omega
    have hva : va = none → vc = 0 := by
      obtain ⟨a', c', e', _, _, z, _⟩ := hA6.rdR
      simp only [Value.slice.injEq] at e'
      intro hn0
      rw [e'.2.2]
      exact z (by rw [← e'.1]; exact hn0)
    unfold maxLen at z2
    clear r6 z3 z4 hrd hSB l6 k6 HA5 HB5 hA6 hlj
    cases va with
    | none =>
      obtain rfl := hva rfl
      obtain rfl : j = 0 := by omega
      go_wp2_with fail
      refine ck.mono ?_
      rintro e7 w7 ⟨rfl, hS7⟩
      clear ck
      have HF : Hid (Below w.heap.size w w7) := hS7.belowOf HB6.out (by omega) hZ4
      clear hS7
      go_wp2_with fail
      go_ret
      exact ⟨rfl, HF.out⟩
    | some ad =>
      obtain ⟨ab, ao, asp⟩ := ad
      have hjI : (j : Int) ≤ rs.length := by omega
      go_wp2_with fail
      refine ck.mono ?_
      rintro e7 w7 ⟨rfl, hS7⟩
      clear ck
      have HF : Hid (Below w.heap.size w w7) := hS7.belowOf HB6.out (by omega) hZ4
      clear hS7
      go_wp2_with fail
      go_ret
      exact ⟨rfl, HF.out⟩

/-! ### The row -/
set_option maxRecDepth 100000 in
theorem lifted (os : Os) (started : os.Started) (H : Type) (enc : TypeId × Value → H) :
    ReturnsInHanded {} Tryz.checked os 7 .any (Rows.walWholeSpec.pre6 enc Tryz.prog Tryz.f7 Rows.walWholeRow.domain false) (Rows.walWholeSpec.post enc Tryz.prog Tryz.f7 false true false false) := by
  refine returnsInHanded_of_change_sized (C := Tryz.checked) own started (by kernel_rfl) Tryz.func7
    (ChangeSpec.witness6 (enc := enc) (C := Tryz.checked) false ⟨#[], #[.slice none 0 0, .int .i64 0, .string ByteArray.empty], []⟩ 8 (by kernel_rfl) (by kernel_rfl) (by kernel_rfl) (by kernel_rfl)) ?_
  intro W base args ds gs before hval0 hW hcnd hsz0 _
  have hsz : (DataW.weightsEach Tryz.prog (Tryz.f7.params.toList ++ Rows.walWholeSpec.plain.varTypes Tryz.prog) (ds ++ gs)).all (· ≤ reachBytes) = true := hsz0
  clear hsz0
  have hval : ∀ (j : Nat) t v, Tryz.f7.params[j]? = some t → args[j]? = some v → Value.okWide Tryz.prog W .any base t v := hval0
  have hW' := hW
  obtain ⟨p, q, hA0, hV, rfl, hfz, hnd⟩ := hW
  have hA : DataW.TrodAll enc Tryz.prog W 0 (fun _ => true) true Tryz.f7.params.toList args.toList ds p := hA0
  rw [Tryz.params7] at hA hval hsz
  obtain ⟨v0, vs0, d0, ds0, p0, q0, hargs, rfl, rfl, h0, r0⟩ := trodAll_cons hA
  obtain ⟨v1, vs1, d1, ds1, p1, q1, rfl, rfl, rfl, h1, r1⟩ := trodAll_cons r0
  obtain ⟨v2, vs2, d2, ds2, p2, q2, rfl, rfl, rfl, h2, r2⟩ := trodAll_cons r1
  obtain ⟨rfl, rfl, rfl⟩ := trodAll_nil r2
  obtain rfl : args = #[v0, v1, v2] := by cases args; simp_all
  obtain ⟨rfl, rfl⟩ := trodVars_none hV
  obtain ⟨a0, len0, cap0, rfl⟩ := okWide_slice Tryz.underlying37 (hval 0 37 v0 rfl rfl)
  have k0 := h0
  have lt0 : ∀ x ∈ p0, x.block < W.heap.size := by obtain ⟨m, hm⟩ := k0; exact DataW.trod_lt m _ _ _ hm
  obtain ⟨o0, w0⟩ : ∃ os, WopsAt W a0 len0 cap0 os := by
    obtain ⟨fuel, hf⟩ := h0
    exact wopsAt_of hf (fun n hn => of_decide_eq_true (List.all_eq_true.1 hsz n (DataW.weights_mem_each (j := 0) rfl rfl n hn)))
  obtain ⟨a1, rfl, rfl, rfl, w1⟩ := open_int Tryz.underlying3 (hval 1 3 v1 rfl rfl) h1
  obtain ⟨a2, rfl, rfl, rfl, w2⟩ := open_string Tryz.underlying9 (hval 2 9 v2 rfl rfl) h2
  clear hA0 hval0
  refine (walk a0 len0 cap0 o0 a1 a2 W w0 w1 w2).mono fun e W' ⟨he, bel⟩ => ?_
  subst he
  exact ⟨_, rfl, _, _, _, [], _, [], hW', trodAll_mk1 (shut_bool Tryz.underlying4 _), (trodAll_cons_mk (Below.trod laidOut (by kernel_rfl) (of_decide_eq_true (by kernel_rfl)) k0 bel lt0) (trodAll_cons_mk (shut_int Tryz.underlying3 w1) (trodAll_cons_mk (shut_string Tryz.underlying9 w2) trodAll_mk0))), rfl, bel.frame _, fun h => by cases h⟩

theorem over : Rows.walWholeRow.holds Tryz.pinned (OpenSpec.ofChange Rows.walWholeSpec) :=
  OpenClaim.holds_of_wide 7 Tryz.f7 rfl rfl rfl rfl rfl rfl rfl ⟨rfl, rfl, rfl, rfl, rfl⟩ rfl rfl rfl rfl rfl (by kernel_rfl) Tryz.func7 (by kernel_rfl)
    (of_decide_eq_true (by kernel_rfl)) (by unfold Func.isWrapper; first | (rw [if_pos (by decide +kernel)]; kernel_rfl) | (rw [if_neg (by decide +kernel)]; exact ⟨rfl, rfl⟩))
    (fun os started H enc _ => lifted os started H enc)

end Go.Proofs.YtmchpckjlmmfmaaGreat.walWhole

namespace Go.Proofs.YtmchpckjlmmfmaaGreat
/-- The statement. -/
theorem walWhole_proved : Rows.WalWholeSaid := walWhole.over
#print axioms walWhole_proved
end Go.Proofs.YtmchpckjlmmfmaaGreat
