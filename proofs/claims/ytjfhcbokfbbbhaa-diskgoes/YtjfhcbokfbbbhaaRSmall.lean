/- The document's answer: Arm, and when no write is left. -/
import Derived.Test.YtjfhcbokfbbbhaaRState
import Derived.Test.YtjfhcbokfbbbhaaDNew
namespace Go.Proofs.Ytjfhcbokfbbbhaa
open Go.RowKit Go.Maps
set_option linter.unusedVariables false

/-- Only its own cells have turned. -/
theorem RefAt.turn {w w' : World} {q gs gl : Nat} {s s' : St} (h : RefAt w q gs gl s) (hS : Sole [q] w w')
    (hr : ∃ (n cs cl : Nat) (mask : ByteArray), (n : Int) = s'.blocks ∧ n ≤ cs ∧ n ≤ cl ∧ cs ≤ maxLen ∧ cl ≤ maxLen ∧ mask.size ≤ maxLen ∧ (s'.armed = true → mask = s'.mask) ∧ w'.heap[q]? = some (.cells (cellsR gs gl n cs cl s' mask) 42 (0, 0)))
    (hb : s'.blocks = s.blocks) (hs : s'.safe = s.safe) (hp : s'.pend = s.pend) (hg : Good s') : RefAt w' q gs gl s' := by
  obtain ⟨xs, hx, hxs⟩ := h.safe
  obtain ⟨ys, hy, hys⟩ := h.late
  refine ⟨hr, ⟨xs, (hS.block gs h.lt.2.1 (by simpa using Ne.symm h.apart.1)).trans hx, fun i hi => by rw [hs]; exact hxs i (by rw [← hb]; exact hi)⟩, ⟨ys, (hS.block gl h.lt.2.2 (by simpa using Ne.symm h.apart.2)).trans hy, fun i hi => by rw [hp]; exact hys i (by rw [← hb]; exact hi)⟩, h.ne, hg⟩

theorem good_armSt {s : St} (h : Good s) (n : Int) (h1 : n ≤ 9223372036854775807) (mask : ByteArray) (hm : mask.size ≤ maxLen) : Good (armSt s n mask) := by
  unfold armSt
  split
  · exact h
  · split
    · rename_i h0
      exact ⟨h.b0, h.b1, h.safe, h.pend, h0, h1, h.w0, h.w1, hm⟩
    · exact ⟨h.b0, h.b1, h.safe, h.pend, Int.le_refl _, by simp, h.w0, h.w1, Nat.zero_le _⟩

theorem armSt_same (s : St) (n : Int) (mask : ByteArray) : (armSt s n mask).blocks = s.blocks ∧ (armSt s n mask).safe = s.safe ∧ (armSt s n mask).pend = s.pend ∧ (armSt s n mask).off = s.off ∧ (armSt s n mask).writes = s.writes := by
  unfold armSt
  split
  · exact ⟨rfl, rfl, rfl, rfl, rfl⟩
  · split <;> exact ⟨rfl, rfl, rfl, rfl, rfl⟩

theorem ref_Arm {w : World} {q gs gl : Nat} {s : St} (h : RefAt w q gs gl s) (n : Int) (h0 : -9223372036854775808 ≤ n) (h1 : n ≤ 9223372036854775807) (mask : ByteArray) (hmask : mask.size ≤ maxLen) :
    Calls Try.prog 18 #[ptr q, .int .i64 n, .string mask] w fun e w' => e = .returned (.tuple #[]) ∧ RefAt w' q gs gl (armSt s n mask) ∧ Sole [q] w w' := by
  obtain ⟨nb, cs, cl, mk, a1, a2, a3, a4, a5, a6, a7, hr⟩ := h.row
  have C := rcells hr
  have c2 := C.c2
  have c3 := C.c3
  have c4 := C.c4
  have f2 := C.fr 2
  have f3 := C.fr 3
  unfold ptr
  cases ho : s.off
  · rw [ho] at c4
    have hl : max n (-1) = leftR (armSt s n mask) := by
      unfold leftR armSt
      rw [ho]
      by_cases hn : 0 ≤ n
      · simp [hn]; omega
      · simp [hn]; omega
    have HS : Hid (RefAt ((w.setCell ⟨q, 2, none⟩ (.int .i64 (max n (-1)))).setCell ⟨q, 3, none⟩ (.string mask)) q gs gl (armSt s n mask)) := by
      obtain ⟨e1, e2, e3, e4, e5⟩ := armSt_same s n mask
      refine h.turn ((Sole.setCell _ _ (by simp)).trans (Sole.setCell _ _ (by simp))) ⟨nb, cs, cl, mask, by rw [e1]; exact a1, a2, a3, a4, a5, hmask, fun ha => ?_, ?_⟩ e1 e2 e3 (good_armSt h.good n h1 mask hmask)
      · unfold armSt at ha ⊢
        rw [ho] at ha ⊢
        by_cases hn : 0 ≤ n
        · simp [hn]
        · simp [hn] at ha
      · rw [heap_setCell_same _ _ _ _ _ _ (heap_setCell_same w q 2 _ _ _ hr), hl]
        simp [cellsR, e4, e5]
    have HO : Hid (s.off = false) := ho
    clear hl ho hr C
    go_enter Try.func18, Try.ntmps18
    go_wp2_with fail
    go_end0
    exact ⟨rfl, HS.out, (Sole.setCell _ _ (by simp)).trans (Sole.setCell _ _ (by simp))⟩
  · rw [ho] at c4
    have e : armSt s n mask = s := by simp [armSt, ho]
    have HE : Hid (armSt s n mask = s) := e
    clear e ho hr C
    go_enter Try.func18, Try.ntmps18
    go_wp2_with fail
    go_end0
    exact ⟨rfl, by rw [HE.out]; exact h, Sole.refl _ _⟩

end Go.Proofs.Ytjfhcbokfbbbhaa
