/- The document's answer: Write. -/
import Derived.Test.YtjfhcbokfbbbhaaRBar
namespace Go.Proofs.Ytjfhcbokfbbbhaa
open Go.RowKit Go.Maps
set_option linter.unusedVariables false

theorem good_done {s : St} (h : Good s) {i : Int} {xs : List Int} (h0 : 0 ≤ i) (h1 : i < s.blocks) (hb : Blk xs) (hd : due s = false) : Good (doneSt s i xs) := by
  unfold doneSt countSt
  have hp : ∀ j c, upd s.pend i (some xs) j = some c → 0 ≤ j ∧ j < s.blocks ∧ Blk c := fun j c hj => by
    by_cases e : j = i
    · subst e; rw [upd_same] at hj; cases hj; exact ⟨h0, h1, hb⟩
    · rw [upd_other _ _ _ e] at hj; exact h.pend j c hj
  cases ha : s.armed
  · simp only [Bool.false_eq_true, if_false]
    exact ⟨h.b0, h.b1, h.safe, hp, h.l0, h.l1, (wrap64_in _).1, (wrap64_in _).2, h.mz⟩
  · simp only [if_true]
    simp [due, ha] at hd
    have := h.l1
    exact ⟨h.b0, h.b1, h.safe, hp, by show 0 ≤ s.left - 1; omega, by show s.left - 1 ≤ _; omega, (wrap64_in _).1, (wrap64_in _).2, h.mz⟩

/-- Behind the count of writes left. -/
theorem ref_count {w : World} {q gs gl : Nat} {s : St} (h : RefAt w q gs gl s) (hd : due s = false) : (s.armed = true → RefAt (w.setCell ⟨q, 2, none⟩ (.int .i64 (s.left - 1))) q gs gl (countSt s)) ∧ (s.armed = false → countSt s = s) := by
  refine ⟨fun ha => ?_, fun ha => by simp [countSt, ha]⟩
  have e : countSt s = { s with left := s.left - 1 } := by simp [countSt, ha]
  have hl : 1 ≤ s.left := by simp [due, ha] at hd; omega
  rw [e]
  obtain ⟨nb, cs, cl, mk, a1, a2, a3, a4, a5, a6, a7, hr⟩ := h.row
  have h1 := h.good.l1
  refine h.turn (Sole.setCell _ _ (by simp)) ⟨nb, cs, cl, mk, a1, a2, a3, a4, a5, a6, a7, ?_⟩ rfl rfl rfl ⟨h.good.b0, h.good.b1, h.good.safe, h.good.pend, by show 0 ≤ s.left - 1; omega, by show s.left - 1 ≤ _; omega, h.good.w0, h.good.w1, h.good.mz⟩
  rw [heap_setCell_same w q 2 _ _ _ hr]
  simp [cellsR, leftR, ha]

/-- One text is stored, and the writes counted. -/
theorem ref_late {w : World} {q gs gl : Nat} {s : St} (h : RefAt w q gs gl s) {n : Nat} (hn : (n : Int) < s.blocks) {xs : List Int} (hb : Blk xs) (hg : Good { s with writes := wr1 s.writes, pend := upd s.pend n (some xs) }) :
    RefAt ((w.setCell ⟨gl, n, none⟩ (.string (strOfNums xs))).setCell ⟨q, 5, none⟩ (.int .i64 (wr1 s.writes))) q gs gl { s with writes := wr1 s.writes, pend := upd s.pend n (some xs) } := by
  obtain ⟨nb, cs, cl, mk, a1, a2, a3, a4, a5, a6, a7, hr⟩ := h.row
  obtain ⟨xs0, hx0, hxs0⟩ := h.safe
  obtain ⟨ys0, hy0, hys0⟩ := h.late
  have hap := h.apart
  have hne := h.ne
  refine ⟨⟨nb, cs, cl, mk, a1, a2, a3, a4, a5, a6, a7, ?_⟩, ⟨xs0, ?_, hxs0⟩, ⟨ys0.setIfInBounds n (.string (strOfNums xs)), ?_, fun j hj => ?_⟩, hne, hg⟩
  · rw [heap_setCell_same _ q 5 _ _ _ ((Below.heap_setCell _ _ _ _ hap.2).trans hr)]
    simp [cellsR, leftR]
  · exact (Below.heap_setCell _ _ _ _ (Ne.symm hap.1)).trans ((Below.heap_setCell _ _ _ _ hne).trans hx0)
  · exact (Below.heap_setCell _ _ _ _ (Ne.symm hap.2)).trans (strRow_set hy0 n _)
  · rw [getElem?_setSome (hys0 j hj)]
    show _ = some (Value.string (lateS (upd s.pend n (some xs) j)))
    by_cases e : j = n
    · subst e; rw [if_pos rfl, upd_same]; rfl
    · rw [if_neg e, upd_other _ _ _ (by omega)]

set_option maxRecDepth 100000 in
set_option maxHeartbeats 8000000 in
theorem ref_Write_ok {w : World} {q gs gl : Nat} {s : St} (h : RefAt w q gs gl s) (i : Int) (h0 : -9223372036854775808 ≤ i) (h1 : i ≤ 9223372036854775807) {v : Value} {xs : List Int} (hr : ∀ W, Sole [q, gs, gl] w W → Rd W v xs) (hy : Byt xs)
    (hu : useErr s i = 0) (hl : xs.length = 512) (hd : due s = false) :
    Calls Try.prog 14 #[ptr q, .int .i64 i, v] w fun e w' => e = .returned (.int .i64 0) ∧ RefAt w' q gs gl (doneSt s i xs) ∧ Sole [q, gs, gl] w w' := by
  have ho : s.off = false := by
    cases ho : s.off
    · rfl
    · unfold useErr at hu; rw [ho] at hu; cases hu
  have hb : 0 ≤ i ∧ i < s.blocks := by
    unfold useErr at hu
    rw [ho] at hu
    simp at hu
    omega
  obtain ⟨n, rfl⟩ : ∃ n : Nat, i = (n : Int) := ⟨i.toNat, by omega⟩
  have hen := ref_ends_no h hd
  have hlen := (hr w (Sole.refl _ _)).len
  rw [hl] at hlen
  have hgd := good_done h.good hb.1 hb.2 ⟨hl, hy⟩ hd
  obtain ⟨hca, hcn⟩ := ref_count h hd
  obtain ⟨nb, cs, cl, mk, a1, a2, a3, a4, a5, a6, a7, hrow⟩ := h.row
  have C := rcells hrow
  have c0 := C.c0
  have c2 := C.c2
  have c4 := C.c4
  have f2 := C.fr 2
  rw [ho] at c4
  have hnb : n < nb := by omega
  have hnbI : (n : Int) < (nb : Int) := by omega
  unfold maxLen at a4 a5
  -- what follows behind the count
  have key : ∀ (wA : World) (s1 : St), RefAt wA q gs gl s1 → Sole [q, gs, gl] w wA → s1.blocks = s.blocks → s1.writes = s.writes → s1.pend = s.pend → doneSt s n xs = { s1 with writes := wr1 s1.writes, pend := upd s1.pend n (some xs) } →
      (∃ cl' , wA.cell? ⟨q, 1, none⟩ = some (.slice (some ⟨gl, 0, none⟩) nb cl') ∧ nb ≤ cl' ∧ cl' ≤ 2 ^ 63 - 1) ∧ wA.cell? ⟨q, 5, none⟩ = some (.int .i64 s.writes) ∧ wA.frozen? ⟨q, 5, none⟩ = false ∧ (∃ x, wA.cell? ⟨gl, n, none⟩ = some (.string x)) ∧ wA.frozen? ⟨gl, n, none⟩ = false ∧ (convert 33 9 v).run Try.prog wA.drew = .ok (.string (strOfNums xs)) wA.drew ∧
      RefAt ((wA.setCell ⟨gl, n, none⟩ (.string (strOfNums xs))).setCell ⟨q, 5, none⟩ (.int .i64 (wr1 s.writes))) q gs gl (doneSt s n xs) := by
    intro wA s1 hA hSA e1 e2 e3 e4
    obtain ⟨nb', cs', cl', mk', b1, b2, b3, b4, b5, b6, b7, hrA⟩ := hA.row
    have hnn : nb' = nb := by omega
    subst hnn
    have CA := rcells hrA
    obtain ⟨ys0, hy0, hys0⟩ := hA.late
    unfold maxLen at b5
    have hyn := hys0 n (by omega)
    refine ⟨⟨cl', CA.c1, b3, b5⟩, by rw [← e2]; exact CA.c5, CA.fr 5, ⟨_, strRow_cell hy0 hyn⟩, strRow_fr hy0 n, (hr wA.drew (hSA.trans (Sole.drew _ _))).conv, ?_⟩
    have := ref_late hA (n := n) (by omega) ⟨hl, hy⟩ (by rw [← e4]; exact hgd)
    rw [← e4, e2] at this
    exact this
  unfold ptr at hen ⊢
  have HK : Hid _ := key
  cases ha : s.armed
  · have hlr : leftR s = -1 := by unfold leftR; rw [ha]; rfl
    rw [hlr] at c2
    have e5 : doneSt s n xs = { s with writes := wr1 s.writes, pend := upd s.pend n (some xs) } := by unfold doneSt; rw [hcn ha]
    obtain ⟨⟨cl', k1, k2, k3⟩, k5, k6, ⟨x, k7⟩, k8, k9, k10⟩ := key w s h (Sole.refl _ _) rfl rfl rfl e5
    have HF : Hid _ := k10
    have hg1 : w.drew.cell? ⟨q, 1, none⟩ = some (.slice (some ⟨gl, 0, none⟩) nb cl') := k1
    obtain ⟨wB, hwB⟩ : ∃ wB, w.drew.setCell ⟨gl, n, none⟩ (.string (strOfNums xs)) = wB := ⟨_, rfl⟩
    have k5B : wB.cell? ⟨q, 5, none⟩ = some (.int .i64 s.writes) := by
      rw [← hwB, ← k5]
      exact World.cell?_of_block (Below.heap_setCell _ _ _ _ h.apart.2)
    have k6B : wB.frozen? ⟨q, 5, none⟩ = false := by
      rw [← hwB, ← k6]
      exact World.frozen?_of_block (Below.heap_setCell _ _ _ _ h.apart.2)
    have HWB : Hid (w.drew.setCell ⟨gl, n, none⟩ (.string (strOfNums xs)) = wB) := hwB
    have hSB : Sole [q, gs, gl] w wB := by rw [← hwB]; exact (Sole.drew _ _).trans (Sole.setCell _ _ (by simp))
    clear key hca hcn hu hd ho ha hlr e5 k10 hwB hrow C hgd
    go_enter Try.func14, Try.ntmps14
    go_wp2_with fail
    refine hen.mono ?_
    rintro e w0 ⟨rfl, rfl⟩
    go_wp2_with fail
    refine wp_region_still_tail 8 (by kernel_rfl) (by kernel_rfl) ?_
    change wpStill _ _ w0.drew (fun a' => wpList _ _ _ _ a' w0.drew) _ _
    simp only [List.take_succ_cons, List.take_zero, List.drop_succ_cons, List.drop_zero]
    repeat still_step
    refine wpStill_nil ?_
    have hwB1 := HWB.out
    have hwB2 : (w0.setCell ⟨gl, n, none⟩ (.string (strOfNums xs))).drew = wB := HWB.out
    go_wp2_with fail
    go_ret
    refine ⟨rfl, ?_, hSB.trans (Sole.setCell _ _ (by simp))⟩
    rw [← HWB.out]
    exact HF.out.same rfl rfl rfl
  · have hlr : leftR s = s.left := by unfold leftR; rw [ha]; rfl
    rw [hlr] at c2
    have hl1 : 1 ≤ s.left := by simp [due, ha] at hd; omega
    have hl2 := h.good.l1
    have hl0 : 0 < s.left := by omega
    have hcs : countSt s = { s with left := s.left - 1 } := by simp [countSt, ha]
    have e5 : doneSt s n xs = { countSt s with writes := wr1 (countSt s).writes, pend := upd (countSt s).pend n (some xs) } := by unfold doneSt; rw [hcs]
    obtain ⟨wA, hwA⟩ : ∃ wA, w.setCell ⟨q, 2, none⟩ (.int .i64 (s.left - 1)) = wA := ⟨_, rfl⟩
    have hA := hca ha
    rw [hwA] at hA
    have hSA : Sole [q, gs, gl] w wA := by rw [← hwA]; exact Sole.setCell _ _ (by simp)
    obtain ⟨⟨cl', k1, k2, k3⟩, k5, k6, ⟨x, k7⟩, k8, k9, k10⟩ := key wA (countSt s) hA hSA (by rw [hcs]) (by rw [hcs]) (by rw [hcs]) e5
    have HF : Hid _ := k10
    have hg1 : wA.drew.cell? ⟨q, 1, none⟩ = some (.slice (some ⟨gl, 0, none⟩) nb cl') := k1
    obtain ⟨wB, hwB⟩ : ∃ wB, wA.drew.setCell ⟨gl, n, none⟩ (.string (strOfNums xs)) = wB := ⟨_, rfl⟩
    have k5B : wB.cell? ⟨q, 5, none⟩ = some (.int .i64 s.writes) := by
      rw [← hwB, ← k5]
      exact World.cell?_of_block (Below.heap_setCell _ _ _ _ h.apart.2)
    have k6B : wB.frozen? ⟨q, 5, none⟩ = false := by
      rw [← hwB, ← k6]
      exact World.frozen?_of_block (Below.heap_setCell _ _ _ _ h.apart.2)
    have HWB : Hid (wA.drew.setCell ⟨gl, n, none⟩ (.string (strOfNums xs)) = wB) := hwB
    have hSB : Sole [q, gs, gl] w wB := by rw [← hwB]; exact (hSA.trans (Sole.drew _ _)).trans (Sole.setCell _ _ (by simp))
    clear key hca hcn hu hd ho ha hlr e5 k10 hwB hrow C hgd hcs hA hSA
    go_enter Try.func14, Try.ntmps14
    go_wp2_with fail
    refine hen.mono ?_
    rintro e w0 ⟨rfl, rfl⟩
    go_wp2_with fail
    refine wp_region_still_tail 8 (by kernel_rfl) (by kernel_rfl) ?_
    change wpStill _ _ wA.drew (fun a' => wpList _ _ _ _ a' wA.drew) _ _
    simp only [List.take_succ_cons, List.take_zero, List.drop_succ_cons, List.drop_zero]
    repeat still_step
    refine wpStill_nil ?_
    have hwB1 := HWB.out
    have hwB2 : (wA.setCell ⟨gl, n, none⟩ (.string (strOfNums xs))).drew = wB := HWB.out
    go_wp2_with fail
    go_ret
    refine ⟨rfl, ?_, hSB.trans (Sole.setCell _ _ (by simp))⟩
    rw [← HWB.out]
    exact HF.out.same rfl rfl rfl

theorem ref_Write {w : World} {q gs gl : Nat} {s : St} (h : RefAt w q gs gl s) (i : Int) (h0 : -9223372036854775808 ≤ i) (h1 : i ≤ 9223372036854775807) {v : Value} {xs : List Int} (hr : ∀ W, Sole [q, gs, gl] w W → Rd W v xs) (hy : Byt xs) :
    Calls Try.prog 14 #[ptr q, .int .i64 i, v] w fun e w' => e = .returned (.int .i64 (writeOut s i xs).1) ∧ RefAt w' q gs gl (writeOut s i xs).2 ∧ Sole [q, gs, gl] w w' := by
  have hlen := (hr w (Sole.refl _ _)).len
  obtain ⟨nb, cs, cl, mk, a1, a2, a3, a4, a5, a6, a7, hrow⟩ := h.row
  have C := rcells hrow
  have c0 := C.c0
  have c4 := C.c4
  unfold maxLen at a4 a5
  cases ho : s.off
  · rw [ho] at c4
    by_cases hi : i < 0
    · have hu : useErr s i = 21 := by unfold useErr; rw [ho]; simp [hi]
      have e : writeOut s i xs = (21, s) := by unfold writeOut; rw [hu]; simp
      rw [e]
      show Calls _ _ _ _ fun e w' => e = .returned (.int .i64 21) ∧ RefAt w' q gs gl s ∧ Sole [q, gs, gl] w w'
      unfold ptr
      clear hu e ho hrow C hr hlen
      go_enter Try.func14, Try.ntmps14
      go_wp2_with fail
      go_ret
      exact ⟨rfl, h, Sole.refl _ _⟩
    · by_cases hj : s.blocks ≤ i
      · have hu : useErr s i = 21 := by unfold useErr; rw [ho]; simp [hj]
        have e : writeOut s i xs = (21, s) := by unfold writeOut; rw [hu]; simp
        rw [e]
        show Calls _ _ _ _ fun e w' => e = .returned (.int .i64 21) ∧ RefAt w' q gs gl s ∧ Sole [q, gs, gl] w w'
        have hjn : (nb : Int) ≤ i := by omega
        unfold ptr
        clear hu e ho hrow C hr hlen hj
        go_enter Try.func14, Try.ntmps14
        go_wp2_with fail
        go_ret
        exact ⟨rfl, h, Sole.refl _ _⟩
      · have hu : useErr s i = 0 := by unfold useErr; rw [ho]; simp; omega
        by_cases hl : xs.length = 512
        · cases hd : due s
          · have e : writeOut s i xs = (0, doneSt s i xs) := by unfold writeOut; rw [if_neg (by simpa using hu), if_neg (by simpa using hl), hd]; rfl
            refine (ref_Write_ok h i h0 h1 hr hy hu hl hd).mono ?_
            rintro e' w' ⟨rfl, hd', hS⟩
            rw [e]
            dsimp only
            exact ⟨rfl, hd', hS⟩
          · have e : writeOut s i xs = (20, cutSt s s.mask) := by unfold writeOut; rw [if_neg (by simpa using hu), if_neg (by simpa using hl), hd]; rfl
            rw [e]
            have hcd := ref_ends_yes h hd ho
            show Calls _ _ _ _ fun e w' => e = .returned (.int .i64 20) ∧ RefAt w' q gs gl (cutSt s s.mask) ∧ Sole [q, gs, gl] w w'
            generalize cutSt s s.mask = s' at *
            rw [hl] at hlen
            have hjn : ¬ (nb : Int) ≤ i := by omega
            unfold ptr at hcd ⊢
            clear hu hd e hr ho hrow C hj a7
            go_enter Try.func14, Try.ntmps14
            go_wp2_with fail
            refine hcd.mono ?_
            rintro e w1 ⟨rfl, hd, hS⟩
            go_wp2_with fail
            go_ret
            exact ⟨rfl, hd, hS⟩
        · have e : writeOut s i xs = (2, s) := by unfold writeOut; rw [if_neg (by simpa using hu), if_pos hl]
          rw [e]
          show Calls _ _ _ _ fun e w' => e = .returned (.int .i64 2) ∧ RefAt w' q gs gl s ∧ Sole [q, gs, gl] w w'
          have hlI : ¬ (xs.length : Int) = 512 := by omega
          have hjn : ¬ (nb : Int) ≤ i := by omega
          unfold ptr
          clear hu e hr ho hrow C hj
          go_enter Try.func14, Try.ntmps14
          go_wp2_with fail
          go_ret
          exact ⟨rfl, h, Sole.refl _ _⟩
  · rw [ho] at c4
    have hu : useErr s i = 20 := by unfold useErr; rw [ho]; rfl
    have e : writeOut s i xs = (20, s) := by unfold writeOut; rw [hu]; simp
    rw [e]
    show Calls _ _ _ _ fun e w' => e = .returned (.int .i64 20) ∧ RefAt w' q gs gl s ∧ Sole [q, gs, gl] w w'
    unfold ptr
    clear hu e ho hrow C hr hlen
    go_enter Try.func14, Try.ntmps14
    go_wp2_with fail
    go_ret
    exact ⟨rfl, h, Sole.refl _ _⟩

end Go.Proofs.Ytjfhcbokfbbbhaa
