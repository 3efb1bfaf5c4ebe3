/- The document's answer: Read. -/
import Derived.Test.YtjfhcbokfbbbhaaRBar
import Derived.Laws.IdiomStrings
namespace Go.Proofs.Ytjfhcbokfbbbhaa
open Go.RowKit Go.Maps
set_option linter.unusedVariables false

theorem strB_strOf {xs : List Int} (h : Byt xs) : strB (strOfNums xs) = xs := by
  unfold strB
  rw [strOfNums_data, List.map_map]
  conv => rhs; rw [← List.map_id xs]
  apply List.map_congr_left
  intro x hx
  obtain ⟨h0, h1⟩ := h x hx
  simp
  omega

theorem strOfNums_size (xs : List Int) : (strOfNums xs).size = xs.length := by
  have : (strOfNums xs).data.toList.length = xs.length := by rw [strOfNums_data]; simp
  rw [← this]
  rw [Array.length_toList]
  rfl

/-- '[]byte(s)'. -/
theorem conv_bytes (w : World) (s : ByteArray) (hs : s.size ≤ 1024) : ∃ v w', (convert 9 33 (.string s)).run Try.prog w = .ok v w' ∧ Rd w' v (strB s) ∧ Below w.heap.size w w' := by
  refine ⟨_, _, run_bytes_of_string w 9 33 5 s Try.underlying9 Try.underlying33 Try.underlying5, ?_, (Below.refl _ w).drew.alloc (Nat.le_refl _) _⟩
  have hge := grownCap_ge w s.size 0 5
  have hle := grownCap_le_maxLen w s.size 0 5 (by unfold maxLen; omega)
  have hl := strB_length s
  refine ⟨_, _, by rw [hl], by rw [hl]; exact hge, hle, (by intro e; cases e), fun hne => ⟨_, 0, rfl, by simp, fun i hi => ?_⟩⟩
  rw [hl] at hi
  have hh : (w.drew.alloc (Obj.cells (bytesRow s (grownCap w s.size 0 5)) 5 ((bytesRow s (grownCap w s.size 0 5)).size, (bytesRow s (grownCap w s.size 0 5)).size + 1))).heap[w.heap.size]? = some (Obj.cells (bytesRow s (grownCap w s.size 0 5)) 5 ((bytesRow s (grownCap w s.size 0 5)).size, (bytesRow s (grownCap w s.size 0 5)).size + 1)) := heap_alloc_new w.drew _
  rw [Nat.zero_add, cell_of_row _ _ i _ 5 _ hh]
  have hi' : i < s.data.size := hi
  unfold bytesRow
  rw [Array.getElem?_append_left (by simpa using hi'), Array.getElem?_map, Array.getElem?_eq_getElem hi', List.getD_eq_getElem?_getD]
  unfold strB
  rw [List.getElem?_map, Array.getElem?_toList, Array.getElem?_eq_getElem hi']
  rfl

set_option maxRecDepth 100000 in
set_option maxHeartbeats 4000000 in
theorem ref_Read {w : World} {q gs gl : Nat} {s : St} (h : RefAt w q gs gl s) (i : Int) (h0 : -9223372036854775808 ≤ i) (h1 : i ≤ 9223372036854775807) :
    Calls Try.prog 37 #[ptr q, .int .i64 i] w fun e w' => ∃ v, e = .returned (.tuple #[v, .int .i64 (useErr s i)]) ∧ Rd w' v (if useErr s i = 0 then seen s i else []) ∧ Below w.heap.size w w' := by
  obtain ⟨nb, cs, cl, mk, a1, a2, a3, a4, a5, a6, a7, hrow⟩ := h.row
  obtain ⟨xs0, hx0, hxs0⟩ := h.safe
  obtain ⟨ys0, hy0, hys0⟩ := h.late
  have C := rcells hrow
  have c0 := C.c0
  have c1 := C.c1
  have c4 := C.c4
  unfold maxLen at a4 a5
  have e0 := empty_toList
  unfold ptr
  cases ho : s.off
  · rw [ho] at c4
    by_cases hi : i < 0
    · have hu : useErr s i = 21 := by unfold useErr; rw [ho]; simp [hi]
      rw [hu, if_neg (by decide)]
      clear hu ho hrow C
      go_enter Try.func37, Try.ntmps37
      go_wp2_with fail
      go_ret2
      exact ⟨_, rfl, Rd.nil _, Below.refl _ _⟩
    · by_cases hj : s.blocks ≤ i
      · have hu : useErr s i = 21 := by unfold useErr; rw [ho]; simp [hj]
        rw [hu, if_neg (by decide)]
        have hjn : (nb : Int) ≤ i := by omega
        clear hu ho hrow C hj
        go_enter Try.func37, Try.ntmps37
        go_wp2_with fail
        go_ret2
        exact ⟨_, rfl, Rd.nil _, Below.refl _ _⟩
      · have hu : useErr s i = 0 := by unfold useErr; rw [ho]; simp; omega
        rw [hu, if_pos rfl]
        obtain ⟨n, rfl⟩ : ∃ n : Nat, i = (n : Int) := ⟨i.toNat, by omega⟩
        have hnI : (n : Int) < (nb : Int) := by omega
        have hyc := strRow_cell hy0 (hys0 n (by omega))
        have hxc := strRow_cell hx0 (hxs0 n (by omega))
        have hbs := h.good.safe n
        cases hp : s.pend n with
        | none =>
          rw [hp] at hyc
          simp only [lateS] at hyc
          obtain ⟨v, w', hrun, hrd, hb⟩ := conv_bytes w (strOfNums (s.safe n)) (by rw [strOfNums_size, hbs.1]; omega)
          rw [strB_strOf hbs.2] at hrd
          rw [show seen s n = s.safe n from by unfold seen; rw [hp]; rfl]
          have HR : Hid (Rd w' v (s.safe n)) := hrd
          generalize strOfNums (s.safe n) = X at *
          clear hrd hu ho hrow C hp hj
          go_enter Try.func37, Try.ntmps37
          go_wp2_with fail
          go_ret2
          exact ⟨_, rfl, HR.out, hb⟩
        | some c =>
          rw [hp] at hyc
          simp only [lateS] at hyc
          have hbc := (h.good.pend n c hp).2.2
          have e1 := lateS_none (some c) (fun x hx => by cases hx; exact hbc)
          have e2 := lateS_ne hbc
          simp only [lateS, Option.isNone_some] at e1
          have e3 : (strOfNums c).toList.isEmpty = false := by
            cases hX : (strOfNums c).toList with
            | nil => exact absurd hX e2
            | cons a l => rfl
          obtain ⟨v, w', hrun, hrd, hb⟩ := conv_bytes w (strOfNums c) (by rw [strOfNums_size, hbc.1]; omega)
          rw [strB_strOf hbc.2] at hrd
          rw [show seen s n = c from by unfold seen; rw [hp]; rfl]
          have HR : Hid (Rd w' v c) := hrd
          generalize strOfNums c = X at *
          clear hrd hu ho hrow C hp hj
          go_enter Try.func37, Try.ntmps37
          go_wp2_with fail
          go_ret2
          exact ⟨_, rfl, HR.out, hb⟩
  · rw [ho] at c4
    have hu : useErr s i = 20 := by unfold useErr; rw [ho]; rfl
    rw [hu, if_neg (by decide)]
    clear hu ho hrow C
    go_enter Try.func37, Try.ntmps37
    go_wp2_with fail
    go_ret2
    exact ⟨_, rfl, Rd.nil _, Below.refl _ _⟩

end Go.Proofs.Ytjfhcbokfbbbhaa
