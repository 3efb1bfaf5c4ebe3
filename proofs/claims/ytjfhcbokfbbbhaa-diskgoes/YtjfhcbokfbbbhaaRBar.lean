/- The document's answer: ends, Barrier. -/
import Derived.Test.YtjfhcbokfbbbhaaRCut
namespace Go.Proofs.Ytjfhcbokfbbbhaa
open Go.RowKit Go.Maps
set_option linter.unusedVariables false

theorem ref_Cut {w : World} {q gs gl : Nat} {s : St} (h : RefAt w q gs gl s) (mask : ByteArray) (hmask : mask.size ≤ maxLen) :
    Calls Try.prog 20 #[ptr q, .string mask] w fun e w' => e = .returned (.tuple #[]) ∧ RefAt w' q gs gl (cutOut s mask) ∧ Sole [q, gs, gl] w w' := by
  unfold cutOut
  cases ho : s.off
  · simp only [Bool.false_eq_true, if_false]
    exact ref_Cut_on h mask hmask ho
  · simp only [if_true]
    obtain ⟨nb, cs, cl, mk, a1, a2, a3, a4, a5, a6, a7, hr⟩ := h.row
    have c4 := (rcells hr).c4
    rw [ho] at c4
    unfold ptr
    clear ho hr
    go_enter Try.func20, Try.ntmps20
    go_wp2_with fail
    refine bodyPost_ret (results_none rfl _ _ _) rfl ?_
    exact ⟨rfl, h, Sole.refl _ _⟩

theorem leftR_no {s : St} (h : Good s) (hd : due s = false) : leftR s ≠ 0 := by
  unfold leftR
  cases ha : s.armed
  · simp
  · simp [due, ha] at hd
    simp
    omega

theorem leftR_yes {s : St} (h : Good s) (hd : due s = true) : leftR s = 0 ∧ s.armed = true := by
  simp [due] at hd
  have := h.l0
  unfold leftR
  rw [hd.1]
  simp
  omega

theorem ref_ends_no {w : World} {q gs gl : Nat} {s : St} (h : RefAt w q gs gl s) (hd : due s = false) :
    Calls Try.prog 32 #[ptr q] w fun e w' => e = .returned (.bool false) ∧ w' = w := by
  obtain ⟨nb, cs, cl, mk, a1, a2, a3, a4, a5, a6, a7, hr⟩ := h.row
  have c2 := (rcells hr).c2
  have hl := leftR_no h.good hd
  generalize leftR s = l at *
  unfold ptr
  clear hr hd
  go_enter Try.func32, Try.ntmps32
  go_wp2_with fail
  go_ret
  exact ⟨rfl, rfl⟩

theorem ref_ends_yes {w : World} {q gs gl : Nat} {s : St} (h : RefAt w q gs gl s) (hd : due s = true) (ho : s.off = false) :
    Calls Try.prog 32 #[ptr q] w fun e w' => e = .returned (.bool true) ∧ RefAt w' q gs gl (cutSt s s.mask) ∧ Sole [q, gs, gl] w w' := by
  obtain ⟨nb, cs, cl, mk, a1, a2, a3, a4, a5, a6, a7, hr⟩ := h.row
  have c2 := (rcells hr).c2
  have c3 := (rcells hr).c3
  obtain ⟨hl, ha⟩ := leftR_yes h.good hd
  rw [hl] at c2
  have hm := a7 ha
  subst hm
  have hc := ref_Cut_on h s.mask h.good.mz ho
  unfold ptr at hc ⊢
  generalize cutSt s s.mask = s' at *
  clear hr hd hl ha ho a7
  go_enter Try.func32, Try.ntmps32
  go_wp2_with fail
  refine hc.mono ?_
  rintro e w1 ⟨rfl, hd, hS⟩
  go_wp2_with fail
  go_ret
  exact ⟨rfl, hd, hS⟩

theorem settleN_mask (f : Nat → Bool) (s : St) (ks : List Int) : ∀ k, (settleN f s ks k).mask = s.mask
  | 0 => rfl
  | k + 1 => by
    have := settleN_mask f s ks k
    unfold settleN settleSt safeSt
    split <;> exact this

theorem good_allSafe {s : St} (h : Good s) : Good (allSafe s) := by
  have hb : (allSafe s).blocks = s.blocks := by unfold allSafe; rw [settleN_blocks]
  refine ⟨(by rw [hb]; exact h.b0), (by rw [hb]; exact h.b1), (fun i => by rw [allSafe_safe h]; exact seen_blk h i), (fun i c hc => by rw [allSafe_pend h] at hc; cases hc), ?_, ?_, ?_, ?_, ?_⟩
  · unfold allSafe; rw [settleN_left]; exact h.l0
  · unfold allSafe; rw [settleN_left]; exact h.l1
  · unfold allSafe; rw [settleN_writes]; exact h.w0
  · unfold allSafe; rw [settleN_writes]; exact h.w1
  · have : (allSafe s).mask = s.mask := by unfold allSafe; rw [settleN_mask]
    rw [this]; exact h.mz

set_option maxRecDepth 100000 in
set_option maxHeartbeats 16000000 in
theorem ref_Barrier_ok {w : World} {q gs gl : Nat} {s : St} (h : RefAt w q gs gl s) (ho : s.off = false) (hd : due s = false) :
    Calls Try.prog 16 #[ptr q] w fun e w' => e = .returned (.int .i64 0) ∧ RefAt w' q gs gl (allSafe s) ∧ Sole [q, gs, gl] w w' := by
  have hen := ref_ends_no h hd
  obtain ⟨nb, cs, cl, mk, a1, a2, a3, a4, a5, a6, a7, hr⟩ := h.row
  obtain ⟨xs0, hx0, hxs0⟩ := h.safe
  obtain ⟨ys0, hy0, hys0⟩ := h.late
  have C := rcells hr
  have c1 := C.c1
  have c4 := C.c4
  rw [ho] at c4
  have hbn : nb ≤ 1024 := by have := h.good.b1; omega
  have hap := h.apart
  have hne := h.ne
  have hlt := h.lt
  unfold maxLen at a4 a5
  have HA : Hid (∀ i : Nat, (allSafe s).safe i = seen s i) := fun i => allSafe_safe h.good i
  have HR : Hid (w.heap[q]? = some (.cells (cellsR gs gl nb cs cl s mk) 42 (0, 0))) := hr
  have HB : Hid ((nb : Int) = s.blocks) := a1
  have HP : Hid (∀ i c, s.pend i = some c → Blk c) := fun i c hc => (h.good.pend i c hc).2.2
  have HG : Hid (Good (allSafe s)) := good_allSafe h.good
  have HW : Hid ((allSafe s).writes = s.writes ∧ (allSafe s).off = s.off ∧ (allSafe s).armed = s.armed ∧ (allSafe s).left = s.left ∧ (allSafe s).mask = s.mask) := by
    unfold Hid allSafe
    exact ⟨settleN_writes _ _ _ _, settleN_off _ _ _ _, settleN_armed _ _ _ _, settleN_left _ _ _ _, settleN_mask _ _ _ _⟩
  have HBL : Hid ((allSafe s).blocks = s.blocks) := by unfold Hid allSafe; rw [settleN_blocks]
  have HPN : Hid (∀ j, (allSafe s).pend j = none) := allSafe_pend h.good
  have HMK : Hid (mk.size ≤ maxLen ∧ (s.armed = true → mk = s.mask)) := ⟨a6, a7⟩
  have H0 : Hid (∀ i : Nat, i < nb → xs0[i]? = some (.string (strOfNums (s.safe i)))) := fun i hi => hxs0 i (by omega)
  have H1 : Hid (∀ i : Nat, i < nb → ys0[i]? = some (.string (lateS (s.pend i)))) := fun i hi => hys0 i (by omega)
  obtain ⟨s', hs'⟩ : ∃ s', allSafe s = s' := ⟨_, rfl⟩
  rw [hs'] at HA HG HW HBL HPN ⊢
  unfold ptr at hen ⊢
  clear hs' ho hr hxs0 hys0 h C a1 a6 a7 hd
  have e0 := empty_toList
  go_enter Try.func16, Try.ntmps16
  go_wp2_with fail
  refine hen.mono ?_
  rintro e w0 ⟨rfl, rfl⟩
  clear hen
  go_wp2_with fail
  go_loopw [18] (fun t wr => ∃ (i : Nat) (xs ys : Array Value), i ≤ nb ∧ t = .int .i64 i ∧ wr.heap[gs]? = some (.cells xs 9 (0, 0)) ∧ wr.heap[gl]? = some (.cells ys 9 (0, 0)) ∧ Hid (∀ j : Nat, j < nb → xs[j]? = some (.string (strOfNums (if j < i then s'.safe j else s.safe j)))) ∧ Hid (∀ j : Nat, j < nb → ys[j]? = some (.string (if j < i then ⟨#[]⟩ else lateS (s.pend j)))) ∧ Sole [gs, gl] w0 wr) (fun t _ => nb - (RowKit.intOf t).toNat)
  case atStart => exact ⟨0, xs0, ys0, Nat.zero_le _, rfl, hx0, hy0, fun j hj => by simpa using H0.out j hj, fun j hj => by simpa using H1.out j hj, Sole.refl _ _⟩
  case round =>
    obtain ⟨i, xs, ys, hi, rfl, hx, hy, HX, HY, hS⟩ := hrel
    clear hx0 hy0
    have hq : wr.heap[q]? = some (.cells (cellsR gs gl nb cs cl s mk) 42 (0, 0)) := (hS.block q hlt.1 (by simp; omega)).trans HR.out
    by_cases hin : i < nb
    · have hyi := HY.out i hin
      rw [if_neg (by omega)] at hyi
      have hyc := strRow_cell hy hyi
      have hAi := HA.out i
      have C := rcells hq
      have d0 := C.c0
      have d1 := C.c1
      cases hp : s.pend i with
      | none =>
        unfold seen at hAi
        rw [hp] at hyi hyc hAi
        simp only [lateS] at hyc hyi
        have HAi : Hid (s'.safe i = s.safe i) := hAi
        have HYI : Hid (ys[i]? = some (.string ⟨#[]⟩)) := hyi
        clear hAi hp hyi C hq
        go_wp2_with fail
        go_roundw
        case rel =>
          refine ⟨i + 1, xs, ys, by omega, by go_num, hx, hy, fun j hj => ?_, fun j hj => ?_, hS⟩
          · rw [HX.out j hj]
            by_cases e : j = i
            · subst e; rw [if_neg (by omega), if_pos (by omega), HAi.out]
            · by_cases e2 : j < i
              · rw [if_pos e2, if_pos (by omega)]
              · rw [if_neg e2, if_neg (by omega)]
          · by_cases e : j = i
            · subst e; rw [if_pos (by omega)]; exact HYI.out
            · rw [HY.out j hj]
              by_cases e2 : j < i
              · rw [if_pos e2, if_pos (by omega)]
              · rw [if_neg e2, if_neg (by omega)]
        case measure => simp [RowKit.intOf]; omega
      | some c =>
        unfold seen at hAi
        rw [hp] at hyi hyc hAi
        simp only [lateS] at hyc hyi
        have hbc := HP.out i c hp
        have e1 := lateS_none (some c) (fun x hx => by cases hx; exact hbc)
        have e2 := lateS_ne hbc
        simp only [lateS, Option.isNone_some] at e1
        have e3 : (strOfNums c).toList.isEmpty = false := by
          cases hX : (strOfNums c).toList with
          | nil => exact absurd hX e2
          | cons a l => rfl
        have hxi := HX.out i hin
        rw [if_neg (by omega)] at hxi
        have hxc := strRow_cell hx hxi
        have fx := strRow_fr hx i
        obtain ⟨X, hX⟩ : ∃ X, strOfNums c = X := ⟨_, rfl⟩
        have HAi : Hid (strOfNums (s'.safe i) = X) := by unfold Hid; rw [hAi]; exact hX
        rw [hX] at hyi hyc e1 e2 e3
        clear hp C hxi hyi hX hAi
        obtain ⟨wA, hwA⟩ : ∃ wA, wr.setCell ⟨gs, i, none⟩ (.string X) = wA := ⟨_, rfl⟩
        have hSA : Sole [gs, gl] wr wA := by rw [← hwA]; exact Sole.setCell _ _ (by simp)
        have hxA : wA.heap[gs]? = some (.cells (xs.setIfInBounds i (.string X)) 9 (0, 0)) := by rw [← hwA]; exact strRow_set hx i _
        have hyA : wA.heap[gl]? = some (.cells ys 9 (0, 0)) := by rw [← hwA]; exact (Below.heap_setCell _ _ _ _ (Ne.symm hne)).trans hy
        have hqA : wA.heap[q]? = some (.cells (cellsR gs gl nb cs cl s mk) 42 (0, 0)) := by rw [← hwA]; exact (Below.heap_setCell _ _ _ _ hap.1).trans hq
        have CA := rcells hqA
        have g1 := CA.c1
        have yA : wA.cell? ⟨gl, i, none⟩ = some (.string X) := by
          rw [← hyc]
          refine World.cell?_of_block ?_
          show wA.heap[gl]? = wr.heap[gl]?
          rw [hyA, hy]
        have fA := strRow_fr hyA i
        have hSL : Sole [gs, gl] wA (wA.setCell ⟨gl, i, none⟩ (.string ⟨#[]⟩)) := Sole.setCell _ _ (by simp)
        have hyL := strRow_set hyA i (.string ⟨#[]⟩)
        have hxL : (wA.setCell ⟨gl, i, none⟩ (.string ⟨#[]⟩)).heap[gs]? = some (.cells (xs.setIfInBounds i (.string X)) 9 (0, 0)) := (Below.heap_setCell _ _ _ _ hne).trans hxA
        clear CA hqA hq
        go_wp2_with fail
        go_roundw
        case rel =>
          refine ⟨i + 1, xs.setIfInBounds i (.string X), ys.setIfInBounds i (.string ⟨#[]⟩), by omega, by go_num, hxL, hyL, fun j hj => ?_, fun j hj => ?_, (hS.trans hSA).trans hSL⟩
          · rw [getElem?_setSome (HX.out j hj)]
            by_cases e : j = i
            · subst e; rw [if_pos rfl, if_pos (by omega), HAi.out]
            · rw [if_neg e]
              by_cases e2 : j < i
              · rw [if_pos e2, if_pos (by omega)]
              · rw [if_neg e2, if_neg (by omega)]
          · rw [getElem?_setSome (HY.out j hj)]
            by_cases e : j = i
            · subst e; rw [if_pos rfl, if_pos (by omega)]
            · rw [if_neg e]
              by_cases e2 : j < i
              · rw [if_pos e2, if_pos (by omega)]
              · rw [if_neg e2, if_neg (by omega)]
        case measure => simp [RowKit.intOf]; omega
    · obtain rfl : i = nb := by omega
      have HF : Hid (RefAt wr q gs gl s') := by
        obtain ⟨w1, w2, w3, w4, w5⟩ := HW.out
        refine ⟨⟨i, cs, cl, mk, by rw [HBL.out]; exact HB.out, a2, a3, a4, a5, HMK.out.1, (fun ha => by rw [w5]; rw [w3] at ha; exact HMK.out.2 ha), ?_⟩, ⟨xs, hx, fun j hj => ?_⟩, ⟨ys, hy, fun j hj => ?_⟩, hne, HG.out⟩
        · rw [hq]
          simp [cellsR, leftR, w1, w2, w3, w4]
        · have hj' : j < i := by have := HB.out; rw [HBL.out] at hj; omega
          rw [HX.out j hj', if_pos hj']
        · have hj' : j < i := by have := HB.out; rw [HBL.out] at hj; omega
          rw [HY.out j hj', if_pos hj', HPN.out]
          rfl
      clear hq
      go_wp2_with fail
      go_ret
      exact ⟨rfl, HF.out, hS.mono (by simp)⟩

theorem ref_Barrier {w : World} {q gs gl : Nat} {s : St} (h : RefAt w q gs gl s) :
    Calls Try.prog 16 #[ptr q] w fun e w' => e = .returned (.int .i64 (barOut s).1) ∧ RefAt w' q gs gl (barOut s).2 ∧ Sole [q, gs, gl] w w' := by
  cases ho : s.off
  · cases hd : due s
    · have e : barOut s = (0, allSafe s) := by simp [barOut, ho, hd]
      refine (ref_Barrier_ok h ho hd).mono ?_
      rintro e' w' ⟨rfl, hd', hS⟩
      rw [e]
      dsimp only
      exact ⟨rfl, hd', hS⟩
    · have e : barOut s = (20, cutSt s s.mask) := by simp [barOut, ho, hd]
      rw [e]
      have hcd := ref_ends_yes h hd ho
      obtain ⟨nb, cs, cl, mk, a1, a2, a3, a4, a5, a6, a7, hr⟩ := h.row
      have c4 := (rcells hr).c4
      rw [ho] at c4
      unfold ptr at hcd ⊢
      show Calls _ _ _ _ fun e w' => e = .returned (.int .i64 20) ∧ RefAt w' q gs gl (cutSt s s.mask) ∧ Sole [q, gs, gl] w w'
      generalize cutSt s s.mask = s' at *
      clear ho hd e hr a7
      go_enter Try.func16, Try.ntmps16
      go_wp2_with fail
      refine hcd.mono ?_
      rintro e w1 ⟨rfl, hd, hS⟩
      go_wp2_with fail
      go_ret
      exact ⟨rfl, hd, hS⟩
  · have e : barOut s = (20, s) := by simp [barOut, ho]
    rw [e]
    obtain ⟨nb, cs, cl, mk, a1, a2, a3, a4, a5, a6, a7, hr⟩ := h.row
    have c4 := (rcells hr).c4
    rw [ho] at c4
    unfold ptr
    show Calls _ _ _ _ fun e w' => e = .returned (.int .i64 20) ∧ RefAt w' q gs gl s ∧ Sole [q, gs, gl] w w'
    clear ho e hr
    go_enter Try.func16, Try.ntmps16
    go_wp2_with fail
    go_ret
    exact ⟨rfl, h, Sole.refl _ _⟩

end Go.Proofs.Ytjfhcbokfbbbhaa
