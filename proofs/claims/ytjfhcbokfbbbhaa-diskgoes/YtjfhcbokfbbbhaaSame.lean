/- same: a disk, and the document's answer, tell the same. -/
import Derived.Test.YtjfhcbokfbbbhaaRRead
import Derived.Test.YtjfhcbokfbbbhaaRPend
import Derived.Test.YtjfhcbokfbbbhaaLive
import Derived.BigQuiet
import Derived.Deep.QuietTactic
import Derived.Deep.RegionHeld3
import Derived.WalkSmall
namespace Go.Proofs.Ytjfhcbokfbbbhaa
open Go.RowKit Go.Maps
set_option linter.unusedVariables false

theorem bytes_set {w : World} {g : Nat} {xs : List Int} {t : TypeId} (hg : w.heap[g]? = some (.cells (bytesV xs) t (0, 0))) (k : Nat) (z : Int) : (w.setCell ⟨g, k, none⟩ (.int .u8 z)).heap[g]? = some (.cells (bytesV (xs.set k z)) t (0, 0)) := by
  rw [heap_setCell_same w g k _ t _ hg]
  congr 2
  apply Array.ext'
  unfold bytesV
  rw [Array.toList_setIfInBounds, List.map_set]

theorem ints_fr {w : World} {base : Nat} {ks : List Int} {g n cap : Nat} (h : w.ownsRow base 3 1 (.slice (some ⟨g, 0, none⟩) n cap) ks.length (ks.map encZ)) (hp : 0 < ks.length) (j : Nat) : w.frozen? ⟨g, j, none⟩ = false := by
  rcases h.2 with ⟨e, hn⟩ | ⟨g', cap', cur, e, hb, hg, _⟩
  · omega
  · cases e
    simp [World.frozen?, hg]

set_option maxRecDepth 100000 in
set_option maxHeartbeats 32000000 in
theorem law_same {w : World} {p bs bp q gs gl : Nat} {s : St} (hd : DiskAt w p bs bp s) (hx : RefAt w q gs gl s) :
    Calls Try.prog 22 #[ptr p, ptr q] w fun e w' => e = .returned (.bool true) ∧ Below w.heap.size w w' := by
  unfold ptr
  go_enter Try.func22, Try.ntmps22
  go_wp2_with fail
  have hp1 := disk_Pending hd
  unfold ptr at hp1
  refine hp1.mono ?_
  rintro e w1 ⟨v1, rfl, hrow1, hb1⟩
  obtain ⟨ap, capp, rfl, hcap1, hcm1, hcl1⟩ := ints_shape hrow1
  have hx1 := hx.below hb1
  have hd1 := hd.below hb1
  clear hp1
  go_wp2_with fail
  have hp2 := ref_Pending hx1
  unfold ptr at hp2
  refine hp2.mono ?_
  rintro e w2 ⟨v2, rfl, hrow2, hb2⟩
  obtain ⟨aq, capq, rfl, hcap2, hcm2, hcl2⟩ := ints_shape hrow2
  have hx2 := hx1.below hb2
  have hd2 := hd1.below hb2
  have hb02 := hb1.trans (hb2.mono hb1.size)
  obtain ⟨nb, cs, cl, mk, a1, a2, a3, a4, a5, a6, a7, hrow⟩ := hx.row
  have hkl := keysOf_length s.pend
  have hr1' : w2.ownsRow w.heap.size 3 1 (.slice ap (keysOf s.pend).length capp) (keysOf s.pend).length ((keysOf s.pend).map encZ) := hrow1.kept (row := none) ⟨hb2.os, hb2.tape, hb2.output, hb2.size, fun k hk _ => hb2.block k hk⟩ (by cases hv : (Value.slice ap (keysOf s.pend).length capp).ownBlock <;> simp)
  have HR1 : Hid _ := hr1'
  have HR2 : Hid _ := hrow2
  obtain ⟨ks, hks⟩ : ∃ ks, keysOf s.pend = ks := ⟨_, rfl⟩
  rw [hks] at hcap1 hcap2 hkl hcl1 hcl2 HR1 HR2 ⊢
  have hs01 := hb1.size
  have hs12 := hb2.size
  have q0 : ∀ W, Below w2.heap.size w2 W → W.cell? ⟨q, 0, none⟩ = some (.slice (some ⟨gs, 0, none⟩) nb cs) := fun W hW => ((hW.cell (p := ⟨q, 0, none⟩) hx2.lt.1).trans (hb02.cell (p := ⟨q, 0, none⟩) hx.lt.1)).trans (rcells hrow).c0
  have q4 : ∀ W, Below w2.heap.size w2 W → W.cell? ⟨q, 4, none⟩ = some (.bool s.off) := fun W hW => ((hW.cell (p := ⟨q, 4, none⟩) hx2.lt.1).trans (hb02.cell (p := ⟨q, 4, none⟩) hx.lt.1)).trans (rcells hrow).c4
  have q5 : ∀ W, Below w2.heap.size w2 W → W.cell? ⟨q, 5, none⟩ = some (.int .i64 s.writes) := fun W hW => ((hW.cell (p := ⟨q, 5, none⟩) hx2.lt.1).trans (hb02.cell (p := ⟨q, 5, none⟩) hx.lt.1)).trans (rcells hrow).c5
  have qOn : ∀ W, Below w2.heap.size w2 W → Calls Try.prog 26 #[.pointer (some ⟨p, 0, none⟩)] W fun e w' => e = .returned (.bool (!s.off)) ∧ w' = W := fun W hW => disk_On (hd2.below hW)
  have qWr : ∀ W, Below w2.heap.size w2 W → Calls Try.prog 27 #[.pointer (some ⟨p, 0, none⟩)] W fun e w' => e = .returned (.int .i64 s.writes) ∧ w' = W := fun W hW => disk_Writes (hd2.below hW)
  have qBl : ∀ W, Below w2.heap.size w2 W → Calls Try.prog 36 #[.pointer (some ⟨p, 0, none⟩)] W fun e w' => e = .returned (.int .i64 (nb : Int)) ∧ w' = W := fun W hW => by
    have := disk_Blocks (hd2.below hW)
    rw [← a1] at this
    exact this
  have HQ0 : Hid (∀ W, Below w.heap.size w W → W.cell? ⟨q, 0, none⟩ = some (.slice (some ⟨gs, 0, none⟩) nb cs)) := fun W hW => (hW.cell (p := ⟨q, 0, none⟩) hx.lt.1).trans (rcells hrow).c0
  have HA1 : Hid ((nb : Int) = s.blocks) := a1
  have hnb : nb ≤ 1024 := by have := hd.good.b1; omega
  unfold maxLen at a4 a5 hcm1 hcm2
  have HCL1 : Hid _ := hcl1
  have HCL2 : Hid _ := hcl2
  clear hcl1 hcl2 hrow1 hrow2 hr1' hks hrow a1 a6 a7 hp2 hx1 hd1
  have hoo : ∃ b, s.off = b := ⟨_, rfl⟩
  obtain ⟨b, hob⟩ := hoo
  rw [hob] at q4 qOn
  clear hob
  cases b
  all_goals (
    go_wp2_with fail
    refine wp_region_noPanic ?_
    go_region_held (fun W => Below w2.heap.size w2 W) (first | assumption | exact (Below.refl _ _).drew | exact keep2 (by assumption) (by assumption))
      (first
        | (go_at_call 26; refine (qOn _ (by assumption)).mono ?_; rintro e w6 ⟨rfl, rfl⟩)
        | (go_at_call 27; refine (qWr _ (by assumption)).mono ?_; rintro e w7 ⟨rfl, rfl⟩)
        | (go_at_call 36; refine (qBl _ (by assumption)).mono ?_; rintro e w8 ⟨rfl, rfl⟩))
    refine NoPanic.normal ?_
    clear q0 q4 q5 qOn qWr qBl
    obtain ⟨w3, hw3⟩ : ∃ w3, w2.drew = w3 := ⟨_, rfl⟩
    have hb3 : Below w2.heap.size w2 w3 := by rw [← hw3]; exact (Below.refl _ _).drew
    have hb03 := hb02.trans (hb3.mono hb02.size)
    rw [hw3]
    clear hw3
    go_wp2_with fail
    go_loopw [53] (fun t wr => ∃ i : Nat, i ≤ ks.length ∧ t = .int .i64 i ∧ Below w.heap.size w wr ∧ Hid (∀ gp, ap = some ⟨gp, 0, none⟩ → (∀ j, i ≤ j → j < ks.length → wr.cell? ⟨gp, j, none⟩ = some (.int .i64 (ks.getD j 0))) ∧ (∀ j, wr.frozen? ⟨gp, j, none⟩ = false) ∧ Sole [gp] w3 wr)) (fun t _ => ks.length - (RowKit.intOf t).toNat)
    case atStart =>
      refine ⟨0, Nat.zero_le _, rfl, hb03, fun gp hgp => ?_⟩
      rcases Nat.eq_zero_or_pos ks.length with hz | hz
      · refine ⟨fun j _ hj => by omega, fun j => ?_, Sole.refl _ _⟩
        rcases HR1.out.2 with ⟨e, hn⟩ | ⟨g', cap', cur, e, hbb, hgg, _⟩
        · rw [hgp] at e; cases e
        · rw [hgp] at e
          cases e
          have : w3.heap[gp]? = some (.cells cur 3 (0, 0)) := (hb3.block gp (Array.getElem?_eq_some_iff.1 hgg).1).trans hgg
          simp [World.frozen?, this]
      · obtain ⟨g, eg, hg0, hg1, hgc⟩ := HCL1.out hz
        rw [hgp] at eg
        cases eg
        have hfr := HR1.out
        rw [hgp] at hfr
        refine ⟨fun j _ hj => ?_, fun j => ?_, Sole.refl _ _⟩
        · rw [hb3.cell (p := ⟨gp, j, none⟩) (Nat.lt_of_lt_of_le hg1 hb2.size), hb2.cell (p := ⟨gp, j, none⟩) hg1]; exact hgc j hj
        · rw [hb3.frozen (p := ⟨gp, j, none⟩) (Nat.lt_of_lt_of_le hg1 hb2.size)]; exact ints_fr hfr hz j
    case round =>
      obtain ⟨i, hi, rfl, hbr, HP⟩ := hrel
      by_cases hil : i < ks.length
      · obtain ⟨gp, rfl, hp0, hp1, _⟩ := HCL1.out (by omega)
        obtain ⟨gq, rfl, hq0, hq1, hqc⟩ := HCL2.out (by omega)
        obtain ⟨hpc, hpf, hSp⟩ := HP.out gp rfl
        have kp := hpc i (Nat.le_refl _) hil
        have kf := hpf i
        have kq : wr.cell? ⟨gq, i, none⟩ = some (.int .i64 (ks.getD i 0)) := by
          rw [← hqc i hil, ← hb3.cell (p := ⟨gq, i, none⟩) hq1]
          exact World.cell?_of_block (hSp.block gq (Nat.lt_of_lt_of_le hq1 hb3.size) (by simp; omega))
        have hilI : (i : Int) < (ks.length : Int) := by omega
        have HPC : Hid (∀ j, i ≤ j → j < ks.length → wr.cell? ⟨gp, j, none⟩ = some (.int .i64 (ks.getD j 0))) := hpc
        have HPF : Hid (∀ j, wr.frozen? ⟨gp, j, none⟩ = false) := hpf
        obtain ⟨x, hxx⟩ : ∃ x, ks.getD i 0 = x := ⟨_, rfl⟩
        rw [hxx] at kp kq
        clear hpc hpf hqc hxx
        go_wp2_with fail
        go_quiet (fail)
        have kp' : (wr.drewN nq).cell? ⟨gp, i, none⟩ = some (.int .i64 x) := kp
        have kf' : (wr.drewN nq).frozen? ⟨gp, i, none⟩ = false := kf
        clear kp kq kf
        go_wp2_with fail
        go_roundw
        case rel =>
          refine ⟨i + 1, by omega, by go_num, (below_drewN hbr nq).setCell hp0 _, fun g hg => ?_⟩
          cases hg
          refine ⟨fun j hj hjl => ?_, fun j => ?_, (hSp.trans (Sole.of_below (below_drewN (Below.refl _ wr) nq) _)).trans (Sole.setCell _ _ (by simp))⟩
          · rw [World.cell?_setCell_other _ _ _ _ (by intro e; have := congrArg Addr.off e; simp at this; omega)]
            exact HPC.out j (by omega) hjl
          · rw [World.frozen?_setCell]
            exact HPF.out j
        case measure => simp [RowKit.intOf]; omega
      · obtain rfl : i = ks.length := by omega
        clear HP
        go_wp2_with fail
        go_loopw [8] (fun t wx => ∃ i : Nat, i ≤ nb + 2 ∧ t = .int .i64 ((i : Int) - 1) ∧ Below w.heap.size w wx) (fun t _ => nb + 2 - (RowKit.intOf t + 1).toNat)
        case atStart => exact ⟨0, by omega, rfl, hbr⟩
        case round =>
          obtain ⟨i, hi, rfl, hbx⟩ := hrel
          have d0 := HQ0.out _ hbx
          obtain ⟨y, hy⟩ : ∃ y : Int, (i : Int) - 1 = y := ⟨_, rfl⟩
          have hy0 : -9223372036854775808 ≤ y := by omega
          have hy1 : y ≤ 9223372036854775807 := by omega
          have HY : Hid ((i : Int) - 1 = y) := hy
          rw [hy]
          by_cases hyn : y ≤ (nb : Int)
          · have hrr := ref_Read (hx.below hbx) y hy0 hy1
            by_cases hu : useErr s y = 0
            · have hr1 := disk_Read_rd (hd.below hbx) y hy0 hy1 hu
              unfold ptr at hr1
              clear hy hrr
              go_wp2_with fail
              refine hr1.mono ?_
              rintro e wa ⟨ga, rfl, hga, hrowa, hra, hba⟩
              have hbxa := hbx.trans (hba.mono hbx.size)
              have hr2 := ref_Read (hx.below hbxa) y hy0 hy1
              rw [hu, if_pos rfl] at hr2
              unfold ptr at hr2
              clear hr1
              go_wp2_with fail
              refine hr2.mono ?_
              rintro e wb ⟨vb, rfl, hrb, hbb⟩
              have hbxb := hbxa.trans (hbb.mono hbxa.size)
              have ca := (hra.below hbb).conv
              have cb := hrb.conv
              have hrowb : wb.heap[ga]? = some (.cells (bytesV (seen s y)) 64 (0, 0)) := (hbb.block ga (Array.getElem?_eq_some_iff.1 hrowa).1).trans hrowa
              have hlen : (seen s y).length = 512 := (seen_blk hd.good y).1
              have hga0 : w.heap.size ≤ ga := Nat.le_trans hbx.size hga
              generalize hse : seen s y = xs at *
              clear hr2 hra hrb hba hbb hrowa hbxa d0 hse
              go_wp2_with fail
              go_loopw [102] (fun t wz => ∃ (k : Nat) (ys : List Int), k ≤ 512 ∧ t = .int .i64 k ∧ ys.length = 512 ∧ wz.heap[ga]? = some (.cells (bytesV ys) 64 (0, 0)) ∧ Sole [ga] wb wz) (fun t _ => 512 - (RowKit.intOf t).toNat)
              case atStart => exact ⟨0, xs, by omega, rfl, hlen, hrowb, Sole.refl _ _⟩
              case round =>
                obtain ⟨k, ys, hk, rfl, hyl, hyr, hSz⟩ := hrel
                clear ca cb
                by_cases hk5 : k < 512
                · have hk5I : (k : Int) < 512 := by omega
                  have kc := cells_row hyr k (by omega)
                  rw [Nat.zero_add] at kc
                  rename_i wz
                  have kf : wr.frozen? ⟨ga, k, none⟩ = false := by simp [World.frozen?, hyr]
                  go_wp2_with fail
                  go_roundw
                  case rel => exact ⟨k + 1, ys.set k 255, by omega, by go_num, by simpa using hyl, bytes_set hyr k 255, hSz.trans (Sole.setCell _ _ (by simp))⟩
                  case measure => simp [RowKit.intOf]; omega
                · have hk5I : ¬ (k : Int) < 512 := by omega
                  have hbz : Below w.heap.size w wr := hSz.belowOf hbxb hbxb.size (by simp; omega)
                  go_wp2_with fail
                  go_roundw
                  case rel => exact ⟨i + 1, by have := HY.out; omega, by have := HY.out; go_num, hbz⟩
                  case measure => have := HY.out; simp [RowKit.intOf]; omega
            · have hr1 := disk_Read_err (hd.below hbx) y hy0 hy1 hu
              rw [if_neg hu] at hrr
              unfold ptr at hr1 hrr
              clear hy
              generalize useErr s y = ue at *
              go_wp2_with fail
              refine hr1.mono ?_
              rintro e wa ⟨rfl, rfl⟩
              clear hr1
              go_wp2_with fail
              refine hrr.mono ?_
              rintro e wb ⟨vb, rfl, hrb, hbb⟩
              have hbxb := hbx.trans (hbb.mono hbx.size)
              have ca := (Rd.nil wb).conv
              have cb := hrb.conv
              generalize strOfNums [] = X at *
              clear hrr hrb hbb d0
              go_wp2_with fail
              go_loopw [102] (fun t wz => t = .int .i64 0 ∧ wz = wb) (fun _ _ => 0)
              case atStart => exact ⟨rfl, rfl⟩
              case round =>
                obtain ⟨rfl, rfl⟩ := hrel
                clear ca cb
                go_wp2_with fail
                go_roundw
                case rel => exact ⟨i + 1, by have := HY.out; omega, by have := HY.out; go_num, hbxb⟩
                case measure => have := HY.out; simp [RowKit.intOf]; omega
          · clear hy
            go_wp2_with fail
            go_ret
            exact ⟨rfl, hbx⟩)

end Go.Proofs.Ytjfhcbokfbbbhaa
