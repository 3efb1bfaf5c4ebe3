/- The contract of the chapter's examples. -/
import Derived.Test.YtflkbcdeogdodaaIEncode
import Derived.Test.YtflkbcdeogdodaaIDecode
namespace Go.Proofs.Ytflkbcdeogdodaa
open Go.RowKit
set_option linter.unusedVariables false

def exR : It := ⟨1, 6, 1, 258, 0, zeroC⟩
def exT : It := ⟨0, 0, 0, 0, 7, zeroC⟩

theorem exR_ok : ItOk exR := ⟨⟨by decide, by decide, by decide, by decide, by decide, by decide, by decide, by decide⟩, by decide, by decide, ch_zero⟩
theorem exT_ok : ItOk exT := ⟨⟨by decide, by decide, by decide, by decide, by decide, by decide, by decide, by decide⟩, by decide, by decide, ch_zero⟩
theorem exR_enc : encE 1 exR = 0 ∧ encS 1 exR = ⟨#[1, 0, 6, 1, 1, 2]⟩ := by
  obtain ⟨e1, e2⟩ := enc_yes (p := 1) (by decide) (x := exR) (by decide)
  exact ⟨e1, e2.trans (by decide)⟩
theorem exT_enc : encE 2 exT = 0 ∧ encS 2 exT = ⟨#[0, 0, 0, 7]⟩ := by
  obtain ⟨e1, e2⟩ := enc_yes (p := 2) (by decide) (x := exT) (by decide)
  exact ⟨e1, e2.trans (by decide)⟩
theorem exR_dec : decE 1 ⟨#[1, 0, 6, 1, 1, 2]⟩ = 0 ∧ decI 1 ⟨#[1, 0, 6, 1, 1, 2]⟩ = exR := by
  obtain ⟨e1, e2⟩ := dec_yes (p := 1) (by decide) (s := ⟨#[1, 0, 6, 1, 1, 2]⟩) (by decide)
  exact ⟨e1, e2.trans rfl⟩

set_option maxHeartbeats 4000000 in
theorem live_any (w : World) : Calls Try.prog 8 #[] w fun e w' => e = .returned (.bool true) ∧ Below w.heap.size w w' := by
  have hk1 : ∀ W, Calls Try.prog 9 #[.int .i64 1, .agg (itC exR)] W fun e w' => e = .returned (.tuple #[.string ⟨#[1, 0, 6, 1, 1, 2]⟩, .int .i64 0]) ∧ Below W.heap.size W w' := fun W => by
    have := encode_any W 1 exR exR_ok
    rwa [exR_enc.1, exR_enc.2] at this
  have hk2 : ∀ W, Calls Try.prog 9 #[.int .i64 2, .agg (itC exT)] W fun e w' => e = .returned (.tuple #[.string ⟨#[0, 0, 0, 7]⟩, .int .i64 0]) ∧ Below W.heap.size W w' := fun W => by
    have := encode_any W 2 exT exT_ok
    rwa [exT_enc.1, exT_enc.2] at this
  have hd : ∀ W, Calls Try.prog 13 #[.int .i64 1, .string ⟨#[1, 0, 6, 1, 1, 2]⟩] W fun e w' => e = .returned (.tuple #[.agg (itC exR), .int .i64 0]) ∧ Below W.heap.size W w' := fun W => by
    have := decode_any W 1 ⟨#[1, 0, 6, 1, 1, 2]⟩
    rwa [exR_dec.1, exR_dec.2] at this
  have hci : ∀ W, Calls Try.prog 11 #[.agg #[.int .i64 2, .int .i64 0, .int .i64 1, .int .i64 1]] W fun e w' => e = .returned (.int .i64 11) ∧ Below W.heap.size W w' := fun W => checkInode_any W 2 0 1 1
  have heq : ∀ W, (binOp .eql 23 (.agg #[.int .i64 1, .int .i64 6, .int .i64 1, .int .i64 258]) (.agg #[.int .i64 1, .int .i64 6, .int .i64 1, .int .i64 258])).run Try.prog W = .ok (.bool true) W := fun W => eq_inodes W 1 6 1 258 1 6 1 258
  obtain ⟨w1, hw1⟩ : ∃ w1, w.alloc (.cells #[.int .i64 1, .int .i64 6, .int .i64 1, .int .i64 258] 23) = w1 := ⟨_, rfl⟩
  have hB : Below w.heap.size w w1 := by rw [← hw1]; exact (Below.refl _ w).alloc (Nat.le_refl _) _
  have hg1 : w1.heap[w.heap.size]? = some (.cells #[.int .i64 1, .int .i64 6, .int .i64 1, .int .i64 258] 23 (0, 0)) := by rw [← hw1]; exact heap_alloc_new w _
  have hlt : w.heap.size < w1.heap.size := (Array.getElem?_eq_some_iff.1 hg1).1
  have hC : ∀ j v, #[Value.int .i64 1, .int .i64 6, .int .i64 1, .int .i64 258][j]? = some v → ∀ W, Below w1.heap.size w1 W → W.cell? ⟨w.heap.size, j, none⟩ = some v := fun j v hv W hW => by
    rw [cell_of_row W _ j _ _ (0, 0) ((hW.block _ hlt).trans hg1)]; exact hv
  have q0 := hC 0 _ rfl w1 (Below.refl _ _)
  have q1 := hC 1 _ rfl w1 (Below.refl _ _)
  have q2 := hC 2 _ rfl w1 (Below.refl _ _)
  have q3 := hC 3 _ rfl w1 (Below.refl _ _)
  go_enter Try.func8, Try.ntmps8
  go_wp2_with (refine wpList_buildBy rfl 31 _ rfl _ rfl [(0, .agg #[.int .i64 1, .int .i64 6, .int .i64 1, .int .i64 258])] (by kernel_rfl) (itC exR) (built_inode _ _ _ _) ?_)
  refine (hk1 _).mono ?_
  rintro e w2 ⟨rfl, hb2⟩
  clear q0 q1 q2 q3 hk1
  go_wp2_with (refine wpList_buildBy rfl 31 _ rfl _ rfl [(1, .int .u32 7)] (by kernel_rfl) (itC exT) (built_lead _) ?_)
  refine (hk2 _).mono ?_
  rintro e w3 ⟨rfl, hb3⟩
  clear hk2
  go_wp2_with fail
  refine (hd _).mono ?_
  rintro e w4 ⟨rfl, hb4⟩
  clear hd
  have hz := zeroItem
  obtain ⟨w5, hw5⟩ : ∃ w5, w4.alloc (.cells (itC it0) 31) = w5 := ⟨_, rfl⟩
  have hb5 : Below w4.heap.size w4 w5 := by rw [← hw5]; exact (Below.refl _ w4).alloc (Nat.le_refl _) _
  have hat : ItAt 31 w5 w4.heap.size it0 := by rw [← hw5]; exact ItAt.laid _ w4 it0
  obtain ⟨w6, hw6⟩ : ∃ w6, w5.setRow w4.heap.size (itC exR) = w6 := ⟨_, rfl⟩
  have hat6 : ItAt 31 w6 w4.heap.size exR := by rw [← hw6]; exact hat.setRow _
  have hb6 : Below w4.heap.size w4 w6 := by rw [← hw6]; exact below_setRow hb5 (Nat.le_refl _) _
  have hb16 := thenB hb2 (thenB hb3 (thenB hb4 hb6))
  have q0 := hC 0 _ rfl w6 hb16
  have q1 := hC 1 _ rfl w6 hb16
  have q2 := hC 2 _ rfl w6 hb16
  have q3 := hC 3 _ rfl w6 hb16
  have c0 : w6.cell? ⟨w4.heap.size, 0, none⟩ = some (.int .i64 1) := hat6.c0
  have c1 : w6.cell? ⟨w4.heap.size, 1, none⟩ = some (.int .i64 6) := hat6.c1
  have c2 : w6.cell? ⟨w4.heap.size, 2, none⟩ = some (.int .i64 1) := hat6.c2
  have c3 : w6.cell? ⟨w4.heap.size, 3, none⟩ = some (.int .i64 258) := hat6.c3
  clear hC hg1 hlt hat6
  go_wp2_with (first
    | (refine wpList_storeI rfl _ _ rfl w4.heap.size exR it0 rfl rfl ch_zero.1 ch_zero.1 hat ?_)
    | (go_at_call 11; refine (hci _).mono ?_; rintro e w7 ⟨rfl, hb7⟩))
  go_ret
  exact ⟨rfl, thenB hB (thenB hb16 hb7)⟩

end Go.Proofs.Ytflkbcdeogdodaa
