/- The document's answer: Cut, ends, Barrier. -/
import Derived.Test.YtjfhcbokfbbbhaaRSmall
import Derived.Test.YtjfhcbokfbbbhaaCutMath
import Derived.Test.YtjfhcbokfbbbhaaPlay
namespace Go.Proofs.Ytjfhcbokfbbbhaa
open Go.RowKit Go.Maps
set_option linter.unusedVariables false

theorem good_cut {s : St} (h : Good s) (m : ByteArray) : Good (cutSt s m) := by
  refine ⟨(by rw [cut_blocks]; exact h.b0), (by rw [cut_blocks]; exact h.b1), fun i => ?_, (fun i c hc => by rw [cut_pend h] at hc; cases hc), (by unfold cutSt; exact Int.le_refl _), (by unfold cutSt; simp), ?_, ?_, (by unfold cutSt; exact Nat.zero_le _)⟩
  · rcases cut_safe h m i with e | ⟨c, hc, e⟩
    · rw [e]; exact h.safe i
    · rw [e]; exact (h.pend i c hc).2.2
  · unfold cutSt; simp only [settleN_writes]; exact h.w0
  · unfold cutSt; simp only [settleN_writes]; exact h.w1

theorem empty_toList : (⟨#[]⟩ : ByteArray).toList = [] := by rw [ByteArray.toList_eq]

theorem getElem?_setSome {xs : Array Value} {i j : Nat} {v u : Value} (hj : xs[j]? = some u) : (xs.setIfInBounds i v)[j]? = some (if j = i then v else u) := by
  rw [Array.getElem?_setIfInBounds]
  have hlt := (Array.getElem?_eq_some_iff.1 hj).1
  by_cases e : i = j
  · subst e; simp [hlt]
  · simp [e, Ne.symm e, hj]

set_option maxRecDepth 100000 in
set_option maxHeartbeats 16000000 in
theorem ref_Cut_on {w : World} {q gs gl : Nat} {s : St} (h : RefAt w q gs gl s) (mask : ByteArray) (hmask : mask.size ≤ maxLen) (ho : s.off = false) :
    Calls Try.prog 20 #[ptr q, .string mask] w fun e w' => e = .returned (.tuple #[]) ∧ RefAt w' q gs gl (cutSt s mask) ∧ Sole [q, gs, gl] w w' := by
  obtain ⟨nb, cs, cl, mk, a1, a2, a3, a4, a5, a6, a7, hr⟩ := h.row
  obtain ⟨xs0, hx0, hxs0⟩ := h.safe
  obtain ⟨ys0, hy0, hys0⟩ := h.late
  have C := rcells hr
  have c1 := C.c1
  have c4 := C.c4
  rw [ho] at c4
  have hbn : nb ≤ 1024 := by have := h.good.b1; omega
  have hap := h.apart
  have hne := h.ne
  have hlt := h.lt
  unfold maxLen at a4 a5 hmask
  have HA : Hid (∀ i : Nat, i < nb → (cutSt s mask).safe i = match s.pend i with | some c => if surv mask (cnt s.pend i) then c else s.safe i | none => s.safe i) := fun i hi => cut_at h.good mask i (by omega)
  have HR : Hid (w.heap[q]? = some (.cells (cellsR gs gl nb cs cl s mk) 42 (0, 0))) := hr
  have HB : Hid ((nb : Int) = s.blocks) := a1
  have hpb : ∀ i c, s.pend i = some c → Blk c := fun i c hc => (h.good.pend i c hc).2.2
  have HP : Hid (∀ i c, s.pend i = some c → Blk c) := hpb
  have hg' := good_cut h.good mask
  have HG : Hid (Good (cutSt s mask)) := hg'
  have HW : Hid ((cutSt s mask).writes = s.writes) := by unfold Hid cutSt; simp only [settleN_writes]
  have HBL : Hid ((cutSt s mask).blocks = s.blocks) := cut_blocks s mask
  have HPN : Hid (∀ j, (cutSt s mask).pend j = none) := cut_pend h.good mask
  have HMK : Hid (mk.size ≤ maxLen) := a6
  have H0 : Hid (∀ i : Nat, i < nb → xs0[i]? = some (.string (strOfNums (s.safe i)))) := fun i hi => hxs0 i (by omega)
  have H1 : Hid (∀ i : Nat, i < nb → ys0[i]? = some (.string (lateS (s.pend i)))) := fun i hi => hys0 i (by omega)
  obtain ⟨s', hs'⟩ : ∃ s', cutSt s mask = s' := ⟨_, rfl⟩
  have HOF : Hid (s'.off = true ∧ s'.armed = false) := by rw [← hs']; unfold Hid cutSt; exact ⟨rfl, rfl⟩
  rw [hs'] at HA HG HW HBL HPN ⊢
  unfold ptr
  clear hs' hg' hpb ho hr hxs0 hys0 h C a1 a6 a7
  have e0 := empty_toList
  go_enter Try.func20, Try.ntmps20
  go_wp2_with fail
  go_loopw [4, 16] (fun kk t wr => ∃ (i : Nat) (xs ys : Array Value), i ≤ nb ∧ t = .int .i64 i ∧ kk = .int .i64 (cnt s.pend i : Nat) ∧ wr.heap[gs]? = some (.cells xs 9 (0, 0)) ∧ wr.heap[gl]? = some (.cells ys 9 (0, 0)) ∧ Hid (∀ j : Nat, j < nb → xs[j]? = some (.string (strOfNums (if j < i then s'.safe j else s.safe j)))) ∧ Hid (∀ j : Nat, j < nb → ys[j]? = some (.string (if j < i then ⟨#[]⟩ else lateS (s.pend j)))) ∧ Sole [gs, gl] w wr) (fun _ t _ => nb - (RowKit.intOf t).toNat)
  case atStart => exact ⟨0, xs0, ys0, Nat.zero_le _, rfl, rfl, hx0, hy0, fun j hj => by simpa using H0.out j hj, fun j hj => by simpa using H1.out j hj, Sole.refl _ _⟩
  case round =>
    obtain ⟨i, xs, ys, hi, rfl, rfl, hx, hy, HX, HY, hS⟩ := hrel
    clear hx0 hy0
    have hq : wr.heap[q]? = some (.cells (cellsR gs gl nb cs cl s mk) 42 (0, 0)) := (hS.block q hlt.1 (by simp; omega)).trans HR.out
    have hcle := cnt_le s.pend i
    have hcs := cnt_succ s.pend i
    by_cases hin : i < nb
    · have hyi := HY.out i hin
      rw [if_neg (by omega)] at hyi
      have hyc := strRow_cell hy hyi
      have hAi := HA.out i hin
      have C := rcells hq
      have d0 := C.c0
      have d1 := C.c1
      cases hp : s.pend i with
      | none =>
        rw [hp] at hyi hyc hAi hcs
        simp only [lateS] at hyc hyi
        have HAi : Hid (s'.safe i = s.safe i) := hAi
        have HYI : Hid (ys[i]? = some (.string ⟨#[]⟩)) := hyi
        have HCS : Hid (cnt s.pend (i + 1) = cnt s.pend i) := by unfold Hid; simpa using hcs
        clear hAi hcs hp hyi C hq
        generalize hci : cnt s.pend i = ci at *
        go_wp2_with fail
        go_roundw
        case rel =>
          refine ⟨i + 1, xs, ys, by omega, by go_num, by rw [HCS.out], hx, hy, fun j hj => ?_, fun j hj => ?_, hS⟩
          · rw [HX.out j hj]
            by_cases e : j = i
            · subst e; rw [if_neg (by omega), if_pos (by omega), HAi.out]
            · by_cases e2 : j < i
              · rw [if_pos e2, if_pos (by omega)]
              · rw [if_neg e2, if_neg (by omega)]
          · by_cases e : j = i
            · subst e; rw [if_pos (by omega)]; exact HYI.out
            · rw [HY.out j hj]
              by_cases e2 : j < i
              · rw [if_pos e2, if_pos (by omega)]
              · rw [if_neg e2, if_neg (by omega)]
        case measure => simp [RowKit.intOf]; omega
      | some c =>
        rw [hp] at hyi hyc hAi hcs
        simp only [lateS] at hyc hyi
        have hbc := HP.out i c hp
        have e1 := lateS_none (some c) (fun x hx => by cases hx; exact hbc)
        have e2 := lateS_ne hbc
        simp only [lateS, Option.isNone_some] at e1
        have e3 : (strOfNums c).toList.isEmpty = false := by
          cases hX : (strOfNums c).toList with
          | nil => exact absurd hX e2
          | cons a l => rfl
        have HCS : Hid (cnt s.pend (i + 1) = cnt s.pend i + 1) := by unfold Hid; simpa using hcs
        have hxi := HX.out i hin
        rw [if_neg (by omega)] at hxi
        have hxc := strRow_cell hx hxi
        have fx := strRow_fr hx i
        have fy := strRow_fr hy i
        dsimp only at hAi
        obtain ⟨X, hX⟩ : ∃ X, strOfNums c = X := ⟨_, rfl⟩
        have HXX : Hid (strOfNums c = X) := hX
        rw [hX] at hyi hyc e1 e2 e3
        clear hcs hp C hxi hyi hX
        obtain ⟨ci, hci⟩ : ∃ ci, cnt s.pend i = ci := ⟨_, rfl⟩
        rw [hci] at HCS hAi hcle ⊢
        clear hci
        by_cases hm : ci < mask.size
        · have hmI : (ci : Int) < (mask.size : Int) := by omega
          have hv : ((mask[ci].toNat : Int) % 2 == 1) = surv mask ci := by
            unfold surv
            simp only [hm, decide_true, Bool.true_and]
            have : (strB mask).getD ci 0 = (mask[ci].toNat : Int) := by
              rw [List.getD_eq_getElem?_getD]
              simp [strB, hm]
              rfl
            rw [this]
            rfl
          cases hsv : surv mask ci
          · rw [hsv] at hv
            have HAi : Hid (s'.safe i = s.safe i) := by unfold Hid; rw [hAi, hsv]; rfl
            clear hAi hsv
            have hSL : Sole [gs, gl] wr (wr.setCell ⟨gl, i, none⟩ (.string ⟨#[]⟩)) := Sole.setCell _ _ (by simp)
            have hyL := strRow_set hy i (.string ⟨#[]⟩)
            have hxL : (wr.setCell ⟨gl, i, none⟩ (.string ⟨#[]⟩)).heap[gs]? = some (.cells xs 9 (0, 0)) := (Below.heap_setCell _ _ _ _ hne).trans hx
            go_wp2_with fail
            go_roundw
            case rel =>
              refine ⟨i + 1, xs, ys.setIfInBounds i (.string ⟨#[]⟩), by omega, by go_num, by rw [HCS.out]; go_num, hxL, hyL, fun j hj => ?_, fun j hj => ?_, hS.trans hSL⟩
              · rw [HX.out j hj]
                by_cases e : j = i
                · subst e; rw [if_neg (by omega), if_pos (by omega), HAi.out]
                · by_cases e2 : j < i
                  · rw [if_pos e2, if_pos (by omega)]
                  · rw [if_neg e2, if_neg (by omega)]
              · rw [getElem?_setSome (HY.out j hj)]
                by_cases e : j = i
                · subst e; rw [if_pos rfl, if_pos (by omega)]
                · rw [if_neg e]
                  by_cases e2 : j < i
                  · rw [if_pos e2, if_pos (by omega)]
                  · rw [if_neg e2, if_neg (by omega)]
            case measure => simp [RowKit.intOf]; omega
          · rw [hsv] at hv
            have HAi : Hid (strOfNums (s'.safe i) = X) := by unfold Hid; rw [hAi, hsv]; exact HXX.out
            clear hAi hsv
            obtain ⟨wA, hwA⟩ : ∃ wA, wr.setCell ⟨gs, i, none⟩ (.string X) = wA := ⟨_, rfl⟩
            have hSA : Sole [gs, gl] wr wA := by rw [← hwA]; exact Sole.setCell _ _ (by simp)
            have hxA : wA.heap[gs]? = some (.cells (xs.setIfInBounds i (.string X)) 9 (0, 0)) := by rw [← hwA]; exact strRow_set hx i _
            have hyA : wA.heap[gl]? = some (.cells ys 9 (0, 0)) := by rw [← hwA]; exact (Below.heap_setCell _ _ _ _ (Ne.symm hne)).trans hy
            have hqA : wA.heap[q]? = some (.cells (cellsR gs gl nb cs cl s mk) 42 (0, 0)) := by rw [← hwA]; exact (Below.heap_setCell _ _ _ _ hap.1).trans hq
            have CA := rcells hqA
            have g1 := CA.c1
            have yA : wA.cell? ⟨gl, i, none⟩ = some (.string X) := by
              rw [← hyc]
              refine World.cell?_of_block ?_
              show wA.heap[gl]? = wr.heap[gl]?
              rw [hyA, hy]
            have fA := strRow_fr hyA i
            have hSL : Sole [gs, gl] wA (wA.setCell ⟨gl, i, none⟩ (.string ⟨#[]⟩)) := Sole.setCell _ _ (by simp)
            have hyL := strRow_set hyA i (.string ⟨#[]⟩)
            have hxL : (wA.setCell ⟨gl, i, none⟩ (.string ⟨#[]⟩)).heap[gs]? = some (.cells (xs.setIfInBounds i (.string X)) 9 (0, 0)) := (Below.heap_setCell _ _ _ _ hne).trans hxA
            clear CA hqA hq
            go_wp2_with fail
            go_roundw
            case rel =>
              refine ⟨i + 1, xs.setIfInBounds i (.string X), ys.setIfInBounds i (.string ⟨#[]⟩), by omega, by go_num, by rw [HCS.out]; go_num, hxL, hyL, fun j hj => ?_, fun j hj => ?_, (hS.trans hSA).trans hSL⟩
              · rw [getElem?_setSome (HX.out j hj)]
                by_cases e : j = i
                · subst e; rw [if_pos rfl, if_pos (by omega), HAi.out]
                · rw [if_neg e]
                  by_cases e2 : j < i
                  · rw [if_pos e2, if_pos (by omega)]
                  · rw [if_neg e2, if_neg (by omega)]
              · rw [getElem?_setSome (HY.out j hj)]
                by_cases e : j = i
                · subst e; rw [if_pos rfl, if_pos (by omega)]
                · rw [if_neg e]
                  by_cases e2 : j < i
                  · rw [if_pos e2, if_pos (by omega)]
                  · rw [if_neg e2, if_neg (by omega)]
            case measure => simp [RowKit.intOf]; omega
        · have hmI : ¬ (ci : Int) < (mask.size : Int) := by omega
          have hsv : surv mask ci = false := by unfold surv; simp [hm]
          have HAi : Hid (s'.safe i = s.safe i) := by unfold Hid; rw [hAi, hsv]; rfl
          clear hAi hsv
          have hSL : Sole [gs, gl] wr (wr.setCell ⟨gl, i, none⟩ (.string ⟨#[]⟩)) := Sole.setCell _ _ (by simp)
          have hyL := strRow_set hy i (.string ⟨#[]⟩)
          have hxL : (wr.setCell ⟨gl, i, none⟩ (.string ⟨#[]⟩)).heap[gs]? = some (.cells xs 9 (0, 0)) := (Below.heap_setCell _ _ _ _ hne).trans hx
          go_wp2_with fail
          go_roundw
          case rel =>
            refine ⟨i + 1, xs, ys.setIfInBounds i (.string ⟨#[]⟩), by omega, by go_num, by rw [HCS.out]; go_num, hxL, hyL, fun j hj => ?_, fun j hj => ?_, hS.trans hSL⟩
            · rw [HX.out j hj]
              by_cases e : j = i
              · subst e; rw [if_neg (by omega), if_pos (by omega), HAi.out]
              · by_cases e2 : j < i
                · rw [if_pos e2, if_pos (by omega)]
                · rw [if_neg e2, if_neg (by omega)]
            · rw [getElem?_setSome (HY.out j hj)]
              by_cases e : j = i
              · subst e; rw [if_pos rfl, if_pos (by omega)]
              · rw [if_neg e]
                by_cases e2 : j < i
                · rw [if_pos e2, if_pos (by omega)]
                · rw [if_neg e2, if_neg (by omega)]
          case measure => simp [RowKit.intOf]; omega
    · obtain rfl : i = nb := by omega
      have C := rcells hq
      have d2 := C.c2
      have d4 := C.c4
      have f2 := C.fr 2
      have f4 := C.fr 4
      have hSq : Sole [q] wr ((wr.setCell ⟨q, 4, none⟩ (.bool true)).setCell ⟨q, 2, none⟩ (.int .i64 (-1))) := (Sole.setCell _ _ (by simp)).trans (Sole.setCell _ _ (by simp))
      have HF : Hid (RefAt ((wr.setCell ⟨q, 4, none⟩ (.bool true)).setCell ⟨q, 2, none⟩ (.int .i64 (-1))) q gs gl s') := by
        refine ⟨⟨i, cs, cl, mk, by rw [HBL.out]; exact HB.out, a2, a3, a4, a5, HMK.out, (fun ha => by rw [HOF.out.2] at ha; cases ha), ?_⟩, ⟨xs, (hSq.block gs (Array.getElem?_eq_some_iff.1 hx).1 (by simpa using Ne.symm hap.1)).trans hx, fun j hj => ?_⟩, ⟨ys, (hSq.block gl (Array.getElem?_eq_some_iff.1 hy).1 (by simpa using Ne.symm hap.2)).trans hy, fun j hj => ?_⟩, hne, HG.out⟩
        · rw [heap_setCell_same _ _ _ _ _ _ (heap_setCell_same wr q 4 _ _ _ hq)]
          have hw := HW.out
          have ho := HOF.out
          simp [cellsR, leftR, ho.1, ho.2, hw]
        · have hj' : j < i := by have := HB.out; rw [HBL.out] at hj; omega
          rw [HX.out j hj', if_pos hj']
        · have hj' : j < i := by have := HB.out; rw [HBL.out] at hj; omega
          rw [HY.out j hj', if_pos hj', HPN.out]
          rfl
      clear C hcs
      go_wp2_with fail
      go_end0
      exact ⟨rfl, HF.out, ((hS.mono (by simp)).trans (hSq.mono (by simp)))⟩

end Go.Proofs.Ytjfhcbokfbbbhaa
