/- The contract of the document's Next. -/
import Derived.Test.YtakifnlfgaedjaaRBase
namespace Go.Proofs.Ytakifnlfgaedjaa
open Go.RowKit
set_option linter.unusedVariables false
set_option linter.unusedSimpArgs false
set_option maxRecDepth 4000

def nextX (x : Rf) (root n : Int) : Rf := if n < 0 then x else ⟨root, (x.ver + 1) % 18446744073709551616, x.first, x.base, x.pl ++ [n], x.l⟩

set_option maxHeartbeats 4000000 in
theorem rnext_any {B : Nat} {w : World} {p : Nat} {vp vl : Value} {x : Rf} (h : RfAt B w p vp vl x) (hB : B ≤ w.heap.size) (hln : x.pl.length ≤ 1000) (root n : Int) : Calls Try.prog 16 #[ptrR p, .int .u32 root, .int .i64 n] w fun e w' => e = .returned (.int .i64 (nextE n)) ∧ RfMoves B w w' p vp vl (nextX x root n) := by
  unfold nextX nextE ptrR
  by_cases hneg : n < 0
  · rw [if_pos hneg, if_pos hneg]
    have H : Hid (RfAt B w p vp vl x) := h
    clear h
    go_enter Try.func16, Try.ntmps16
    go_wp2
    go_ret
    exact ⟨rfl, ⟨vp, vl, H.out⟩, Sole.refl _ _⟩
  rw [if_neg hneg, if_neg hneg]
  obtain ⟨iS, hiS, hy0, hy1, hy2⟩ := info_parts Try.infoIn
  obtain ⟨root0, ver, first, base, pl, l⟩ := x
  obtain ⟨a, c, rfl⟩ := own_shape h.op
  dsimp only at *
  have H : Hid (RfAt B w p (.slice a pl.length c) vl ⟨root0, ver, first, base, pl, l⟩) := h
  have hp := h.lt
  have hap := h.apartP
  have hrow := h.row
  unfold rfC at hrow
  dsimp only at hrow
  have hO1 := h.op
  dsimp only at hO1
  obtain ⟨V, hV⟩ : ∃ V, IntKind.u64.wrap (ver + 1) = V := ⟨_, rfl⟩
  have hVV : (ver + 1) % 18446744073709551616 = V := by rw [← hV, IntKind.wrap_u64]
  rw [hVV]
  obtain ⟨m, hm⟩ : ∃ m, pl.length = m := ⟨_, rfl⟩
  have HM : Hid (pl.length = m) := hm
  rw [hm] at hrow hO1 hln
  have c0 : w.cell? ⟨p, 0, none⟩ = some (.int .u32 root0) := h.cell 0 _ rfl
  have f0 := frozen_of_row w p 0 _ _ hrow
  obtain ⟨w1, hw1⟩ : ∃ w1, w.setCell ⟨p, 0, none⟩ (.int .u32 root) = w1 := ⟨_, rfl⟩
  have g1 := heap_setCell_same w p 0 _ _ (.int .u32 root) hrow
  simp only [List.setIfInBounds_toArray, List.set_cons_zero, List.set_cons_succ] at g1
  have hS1 : Sole [p] w w1 := by rw [← hw1]; exact Sole.setCell _ _ (by simp)
  rw [hw1] at g1
  have c1 : w1.cell? ⟨p, 1, none⟩ = some (.int .u64 ver) := by rw [cell_of_row _ _ 1 _ _ (0, 0) g1]; rfl
  have f1 := frozen_of_row w1 p 1 _ _ g1
  obtain ⟨w2, hw2⟩ : ∃ w2, w1.setCell ⟨p, 1, none⟩ (.int .u64 V) = w2 := ⟨_, rfl⟩
  have g2 := heap_setCell_same w1 p 1 _ _ (.int .u64 V) g1
  simp only [List.setIfInBounds_toArray, List.set_cons_zero, List.set_cons_succ] at g2
  have hS2 : Sole [p] w1 w2 := by rw [← hw2]; exact Sole.setCell _ _ (by simp)
  rw [hw2] at g2
  have c2 : w2.cell? ⟨p, 4, none⟩ = some (.slice a m c) := by rw [cell_of_row _ _ 4 _ _ (0, 0) g2]; rfl
  have hS12 : Sole [p] w w2 := hS1.trans hS2
  have hO2 := own_keep hO1 hS12.size (fun q hq hl => hS12.block q hl (by rw [own_same a m pl.length c] at hq; have := (hap q hq).1; simpa using this))
  obtain ⟨w3, hw3⟩ : ∃ w3, w2.alloc (.cells #[.int .i64 n] 3) = w3 := ⟨_, rfl⟩
  have hB3 : Below w2.heap.size w2 w3 := by rw [← hw3]; exact (Below.refl _ w2).alloc (Nat.le_refl _) _
  have hg3 : w3.heap[w2.heap.size]? = some (.cells #[.int .i64 n] 3 (0, 0)) := by rw [← hw3]; exact heap_alloc_new w2 _
  have hO3 := own_below hO2 hB3
  have hz12 := hS12.size
  have hz23 := hB3.size
  obtain ⟨v4, w4, hrun, h4o, h4g, _, h4a⟩ := run_append_own_at (P := Try.prog) w3 B 39 39 3 iS _ 1 8 Try.underlying39 hiS hy0 hy1 hy2 rfl (by decide) (.slice a m c) m (pl.flatMap inC) hO3 ⟨w2.heap.size, 0, none⟩ 1 1 [.int .i64 n] rfl (rowAdd hg3) (by simp [Value.oneCell']) (by unfold maxLen; omega) (by omega) (by omega)
  obtain ⟨a4, c4, rfl⟩ := own_shape h4o
  have g3 := (hB3.block p (by omega)).trans g2
  have g4 := (h4g.block p (by omega) (fun e => by have e := e.symm; rw [own_same a m pl.length c] at e; exact (hap p e).1 rfl)).trans g3
  have z4 : w4.cell? ⟨p, 4, none⟩ = some (.slice a m c) := by rw [cell_of_row _ _ 4 _ _ (0, 0) g4]; rfl
  have f4 := frozen_of_row w4 p 4 _ _ g4
  have g5 := heap_setCell_same w4 p 4 _ _ (.slice a4 (m + 1) c4) g4
  simp only [List.setIfInBounds_toArray, List.set_cons_zero, List.set_cons_succ] at g5
  have hS5 : Sole [p] w4 (w4.setCell ⟨p, 4, none⟩ (.slice a4 (m + 1) c4)) := Sole.setCell _ _ (by simp)
  have hS24 : Sole (Value.slice a pl.length c).ownBlock.toList w2 w4 := (Sole.of_below hB3 _).trans ⟨h4g.os, h4g.tape, h4g.output, h4g.size, fun k hk hn => h4g.block k hk (fun e => hn (by rw [Option.mem_toList, own_same a pl.length m c]; exact e.symm))⟩
  have h4n : ∀ k, (Value.slice a4 (m + 1) c4).ownBlock = some k → k ≠ p := fun k hk e => row_apart (by decide) g4 h4o (by rw [hk, e])
  have hSA : Sole (rfB p (.slice a pl.length c) vl) w (w4.setCell ⟨p, 4, none⟩ (.slice a4 (m + 1) c4)) := by
    refine ((hS12.mono (fun k hk => ?_)).trans (hS24.mono (fun k hk => ?_))).trans (hS5.mono (fun k hk => ?_))
    · simp only [List.mem_singleton] at hk; subst hk; exact List.mem_cons_self
    · exact List.mem_cons_of_mem _ (List.mem_append_left _ hk)
    · simp only [List.mem_singleton] at hk; subst hk; exact List.mem_cons_self
  have HOUT : Hid (RfMoves B w (w4.setCell ⟨p, 4, none⟩ (.slice a4 (m + 1) c4)) p (.slice a pl.length c) vl ⟨root, V, first, base, pl ++ [n], l⟩) := by
    refine ⟨⟨.slice a4 (m + 1) c4, vl, ⟨g5, ?_, ?_⟩⟩, hSA⟩
    · have := own_keep h4o hS5.size (fun k hk hl => hS5.block k hl (by have := h4n k hk; simpa using this))
      simpa [inC, HM.out] using this
    · refine own_keep H.out.ol hSA.size (fun q hq hl => ?_)
      have hqp := (H.out.apartL q hq).1
      refine (hS5.block q (Nat.lt_of_lt_of_le hl (Nat.le_trans hS12.size hS24.size)) (by simpa using hqp)).trans ((hS24.block q (Nat.lt_of_lt_of_le hl hS12.size) (fun e => ?_)).trans (hS12.block q hl (by simpa using hqp)))
      rw [Option.mem_toList] at e
      exact two_apart (by decide) H.out.ol H.out.op q hq e
  clear h hap hrow hO1 g1 g2 g3 g4 g5 hg3 hO2 hO3 h4o h4g h4a h4n hS1 hS2 hS12 hS5 hS24 hSA hB3 hVV hm
  go_enter Try.func16, Try.ntmps16
  go_wp2_with (at_builtin; refine wpList_plain rfl (fun K hK => ?_); refine wp_app _ _ 39 rfl _ _ rfl rfl hrun ?_; refine hK _ _ ?_; clear hK)
  go_ret
  exact ⟨rfl, HOUT.out⟩

end Go.Proofs.Ytakifnlfgaedjaa
