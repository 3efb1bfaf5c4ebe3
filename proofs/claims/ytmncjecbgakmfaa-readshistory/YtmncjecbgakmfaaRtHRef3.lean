/- The contract of the document's Forget; one more in the document's list. -/
import Derived.Test.YtmncjecbgakmfaaRtHRef2
namespace Go.Proofs.Ytmncjecbgakmfaa
open Go.RowKit
set_option linter.unusedVariables false
set_option linter.unusedSimpArgs false
set_option maxRecDepth 100000

theorem wa_rd {w : World} {q : Nat} {y : Wa} (h : w.heap[q]? = some (.cells #[.int .u64 y.ver, .slice y.a y.n y.c] 49 (0, 0))) : RdZ 2 waE w (.slice (some ⟨q, 0, none⟩) 1 1) [y] := by
  refine ⟨⟨_, 1, rfl, Nat.le_refl _, by unfold maxLen; decide, fun _ => ⟨q, 0, rfl, (Array.getElem?_eq_some_iff.1 h).1, fun i x j u hi hj => ?_⟩⟩, fun c hc => by cases hc⟩
  have hi0 : i = 0 := by
    have := (List.getElem?_eq_some_iff.1 hi).1
    simp at this; omega
  subst hi0
  simp at hi
  subst hi
  rw [cell_of_row _ _ _ _ _ (0, 0) h]
  simpa [waE] using hj

theorem wa_slice (w : World) (ver : Int) (a : Option Addr) (n c : Nat) : (Instr.buildSlice 42 1 #[(0, .agg #[.int .u64 ver, .slice a n c])]).run Try.prog w = .ok (.slice (some ⟨w.heap.size, 0, none⟩) 1 1) (w.alloc (.cells #[.int .u64 ver, .slice a n c] 49)) := by kernel_rfl

set_option maxHeartbeats 8000000 in
theorem rforget_any {w : World} (ax : Option Addr) (nx cx : Nat) (X : List Wa) (hX : RdZ 2 waE w (.slice ax nx cx) X) (hnx : nx ≤ 1000) (up : Int) :
    Calls Try.prog 25 #[.slice ax nx cx, .int .u64 up] w fun e w' => ∃ u, e = .returned u ∧ OwnL w.heap.size 49 2 waE w' u (X.filter (fun d => decide (up < d.ver))) ∧ Below w.heap.size w w' := by
  obtain ⟨hlx, _, _⟩ := hX.len
  have HX : Hid (RdZ 2 waE w (.slice ax nx cx) X) := hX
  have HL : Hid (X.length = nx) := hlx
  obtain ⟨iE, hiE, hz0, hz1, hz2⟩ := info_parts info_wa
  clear hX hlx
  go_enter Try.func25, Try.ntmps25
  go_wp2
  go_loopg [5, 10] nx (fun kx s5 s10 wr => ∃ (i : Nat) (ao : Option Addr) (no co : Nat), s10 = .int .i64 i ∧ s5 = .slice ao no co ∧ i ≤ nx ∧ nx - i ≤ kx ∧ Hid (Below w.heap.size w wr) ∧ Hid (OwnL w.heap.size 49 2 waE wr (.slice ao no co) ((X.take i).filter (fun d => decide (up < d.ver)))))
  case atStart => exact ⟨0, none, 0, 0, rfl, rfl, Nat.zero_le _, by omega, Below.refl _ _, OwnL.nil _ _ _ _ _⟩
  case round =>
    obtain ⟨i, ao, no, co, rfl, rfl, hin, hkx, HW, HQ⟩ := hrel
    by_cases hlt : i < nx
    · obtain ⟨⟨ver, ay, ny, cy, ly⟩, hy⟩ : ∃ y, X[i]? = some y := ⟨_, List.getElem?_eq_getElem (by have := HL.out; omega)⟩
      have HY : Hid (X[i]? = some ⟨ver, ay, ny, cy, ly⟩) := hy
      obtain ⟨b0, o0, rfl, hld⟩ := wa_load (HX.out.below HW.out) hy
      dsimp only at hld
      have HLD : Hid _ := hld
      have hiI : (i : Int) < (nx : Int) := by omega
      have hib : (i : Int) + 1 ≤ 1001 := by omega
      have hbl := bel1 wr (.cells #[.int .u64 ver, .slice ay ny cy] 49)
      obtain ⟨w5, hw5⟩ : ∃ w5, wr.alloc (.cells #[.int .u64 ver, .slice ay ny cy] 49) = w5 := ⟨_, rfl⟩
      have hrow : w5.heap[wr.heap.size]? = some (.cells #[.int .u64 ver, .slice ay ny cy] 49 (0, 0)) := by rw [← hw5]; exact heap_alloc_new wr _
      have c0 : w5.cell? ⟨wr.heap.size, 0, none⟩ = some (.int .u64 ver) := by rw [cell_of_row _ _ _ _ _ (0, 0) hrow]; rfl
      rw [hw5] at hbl
      have HW5 : Hid (Below w.heap.size w w5) := HW.out.trans (hbl.mono HW.out.size)
      have HQ5 := OwnL.below HQ.out hbl
      have hlen : no ≤ 1000 := by
        obtain ⟨h1, _⟩ := HQ.out
        obtain ⟨a', c', e⟩ := row_slice HQ.out
        simp only [Value.slice.injEq] at e
        have h2 : ((X.take i).filter (fun d => decide (up < d.ver))).length ≤ i := Nat.le_trans (List.length_filter_le _ _) (by rw [List.length_take]; omega)
        omega
      by_cases hgt : up < ver
      · have hg' : ver > up := hgt
        have hl5 : (Instr.loadAt 49 (.pointer (some ⟨wr.heap.size, 0, none⟩))).run Try.prog w5 = .ok (.agg #[.int .u64 ver, .slice ay ny cy]) w5 := by
          have hl := run_loadVar_row (P := Try.prog) w5 wr.heap.size _ 49 #[.int .u64 ver, .slice ay ny cy] _ _ hrow Try.underlying49 rfl (by kernel_rfl)
          simp only [Instr.loadAt, Instr.sureAddr, Sem.run_bind, Sem.run_pure, Result.andThen_ok, hl]
        have HL5 : Hid _ := hl5
        have hbl6 := bel1 w5 (.cells #[.int .u64 ver, .slice ay ny cy] 49)
        obtain ⟨w6, hw6⟩ : ∃ w6, w5.alloc (.cells #[.int .u64 ver, .slice ay ny cy] 49) = w6 := ⟨_, rfl⟩
        have hrow6 : w6.heap[w5.heap.size]? = some (.cells #[.int .u64 ver, .slice ay ny cy] 49 (0, 0)) := by rw [← hw6]; exact heap_alloc_new w5 _
        have hr6 : RdZ 2 waE w6 (.slice (some ⟨w5.heap.size, 0, none⟩) 1 1) [⟨ver, ay, ny, cy, ly⟩] := wa_rd hrow6
        rw [hw6] at hbl6
        have HQ6 := OwnL.below HQ5 hbl6
        have HW6 : Hid (Below w.heap.size w w6) := HW5.out.trans (hbl6.mono HW5.out.size)
        have hlq : ((X.take i).filter (fun d => decide (up < d.ver))).length ≤ 1000 := Nat.le_trans (List.length_filter_le _ _) (by rw [List.length_take]; omega)
        have HLQ : Hid _ := hlq
        have HS6 : Hid (w.heap.size ≤ w6.heap.size) := HW6.out.size
        clear hy hld hbl hrow hl5 hrow6 hbl6 HQ5 hlq
        go_wp2_with (first
          | (refine wpList_loadG rfl 49 _ rfl _ rfl _ HLD.out ?_)
          | (refine wpList_loadG rfl 49 _ rfl _ rfl _ HL5.out ?_)
          | (refine wpList_append_E wa_len wa_one Try.underlying42 hiE hz0 hz1 hz2 rfl (by decide) (by decide) rfl _ _ rfl w.heap.size _ _ rfl HQ6 _ [⟨ver, ay, ny, cy, ly⟩] rfl hr6 (by have := HLQ.out; simp only [List.length_singleton]; omega) HS6.out ?_
             rintro v7 w7 ho7 hg7))
        have hb7 : Below w.heap.size w w7 := grown_below HW6.out hg7 (fun g hg => by
          obtain ⟨_, ⟨e, _⟩ | ⟨g', cap, cur, e, h3, _⟩⟩ := HQ6
          · rw [e] at hg; cases hg
          · rw [e] at hg; cases hg; exact h3) HW6.out.size
        obtain ⟨a7, c7, e7⟩ := row_slice ho7
        have HO7 : Hid (OwnL w.heap.size 49 2 waE w7 v7 ((X.take i).filter (fun d => decide (up < d.ver)) ++ [⟨ver, ay, ny, cy, ly⟩])) := ho7
        have HB7 : Hid (Below w.heap.size w w7) := hb7
        clear ho7 hg7 hb7 HQ6 hr6
        subst e7
        go_roundg (nx - (i + 1))
        case measure => omega
        case rel =>
          refine ⟨i + 1, a7, _, c7, by rw [show ((i : Int) + 1) = ((i + 1 : Nat) : Int) by omega], rfl, by omega, by omega, HB7.out, ?_⟩
          rw [take_next HY.out, List.filter_append]
          have : [(⟨ver, ay, ny, cy, ly⟩ : Wa)].filter (fun d => decide (up < d.ver)) = [⟨ver, ay, ny, cy, ly⟩] := by simp [hgt]
          rw [this]
          exact HO7.out
      · have hle : ¬ ver > up := hgt
        have HO5 : Hid (OwnL w.heap.size 49 2 waE w5 (.slice ao no co) ((X.take i).filter (fun d => decide (up < d.ver)))) := HQ5
        clear hy hld hbl hrow HQ5
        go_wp2_with (first | (refine wpList_loadG rfl 49 _ rfl _ rfl _ HLD.out ?_))
        go_roundg (nx - (i + 1))
        case measure => omega
        case rel =>
          refine ⟨i + 1, ao, no, co, by rw [show ((i : Int) + 1) = ((i + 1 : Nat) : Int) by omega], rfl, by omega, by omega, HW5.out, ?_⟩
          rw [take_next HY.out, List.filter_append]
          have : [(⟨ver, ay, ny, cy, ly⟩ : Wa)].filter (fun d => decide (up < d.ver)) = [] := by simp; omega
          rw [this, List.append_nil]
          exact HO5.out
    · obtain rfl : nx = i := by omega
      have HO : Hid (OwnL w.heap.size 49 2 waE wr (.slice ao no co) (X.filter (fun d => decide (up < d.ver)))) := by
        have := HQ.out
        rw [List.take_of_length_le (by have := HL.out; omega)] at this
        exact this
      go_wp2
      go_ret
      exact ⟨_, rfl, HO.out, HW.out⟩

end Go.Proofs.Ytmncjecbgakmfaa
