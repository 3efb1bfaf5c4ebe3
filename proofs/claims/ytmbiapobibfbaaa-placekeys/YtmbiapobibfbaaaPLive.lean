/- The contract of the chapter's examples. -/
import Derived.Test.YtmbiapobibfbaaaPRead
import Derived.Test.YtmbiapobibfbaaaPSpan
namespace Go.Proofs.Ytmbiapobibfbaaa
open Go.RowKit
set_option linter.unusedVariables false

def exP : Pl := ⟨1, 2, ⟨#[97]⟩, 0⟩
def exN : Pl := ⟨1, 2, ⟨#[46, 46]⟩, 0⟩
def exK : ByteArray := ⟨#[0, 0, 0, 1, 2, 97, 0, 0, 0, 0, 0, 0, 0, 0]⟩

theorem exP_ok : PlOk exP := ⟨by decide, by decide, by decide, by decide, by decide, by decide, by decide⟩
theorem exN_ok : PlOk exN := ⟨by decide, by decide, by decide, by decide, by decide, by decide, by decide⟩

theorem nameOk_data (s : ByteArray) : nameOk s = (decide (1 ≤ s.size) && decide (s.size ≤ 8) && !(s.data.toList == [46]) && !(s.data.toList == [46, 46]) && !(s.data.toList.contains 0) && !(s.data.toList.contains 47)) := by
  unfold nameOk; rw [ByteArray.toList_eq]

theorem exP_yes : plOk exP = true := by
  unfold plOk exP
  rw [nameOk_data]
  decide
theorem exN_no : plOk exN = false := by
  unfold plOk exN
  rw [nameOk_data]
  decide
theorem ex_key : keyS exP = exK := by
  unfold keyS
  rw [exP_yes]
  decide
theorem ex_plOf : plOf (strB exK) = exP := by
  unfold plOf
  rw [if_neg (by decide), if_pos (by decide)]
  unfold entP exP
  congr 1
theorem ex_rdOk : rdOk exK = true := by
  unfold rdOk
  rw [ex_plOf, exP_yes, ex_key]
  simp
  rfl
theorem ex_spF : spF 1 2 = ⟨#[0, 0, 0, 1, 2, 0, 0, 0, 0, 0, 0, 0, 0, 0]⟩ := by decide
theorem ex_spT : spT 1 2 = ⟨#[0, 0, 0, 1, 3, 0, 0, 0, 0, 0, 0, 0, 0, 0]⟩ := by decide
theorem ex_spE : spE 1 2 = 0 := by decide

set_option maxHeartbeats 2000000 in
theorem live_any (w : World) : Calls Try.prog 9 #[] w fun e w' => e = .returned (.bool true) ∧ Below w.heap.size w w' := by
  have hk1 : ∀ W, Calls Try.prog 10 #[.agg #[.int .u32 1, .int .i64 2, .string ⟨#[97]⟩, .int .u32 0]] W fun e w' => e = .returned (.tuple #[.string exK, .int .i64 0]) ∧ Below W.heap.size W w' := fun W => by
    have := key_any W exP exP_ok
    rwa [ex_key, show plE exP = 0 from by unfold plE; rw [exP_yes]; rfl] at this
  have hk2 : ∀ W, Calls Try.prog 10 #[.agg #[.int .u32 1, .int .i64 2, .string ⟨#[46, 46]⟩, .int .u32 0]] W fun e w' => e = .returned (.tuple #[.string ⟨#[]⟩, .int .i64 30]) ∧ Below W.heap.size W w' := fun W => by
    have := key_any W exN exN_ok
    rwa [show keyS exN = ⟨#[]⟩ from by unfold keyS; rw [exN_no]; rfl, show plE exN = 30 from by unfold plE; rw [exN_no]; rfl] at this
  have hsp : ∀ W, Calls Try.prog 18 #[.int .u32 1, .int .i64 2] W fun e w' => e = .returned (.tuple #[.string ⟨#[0, 0, 0, 1, 2, 0, 0, 0, 0, 0, 0, 0, 0, 0]⟩, .string ⟨#[0, 0, 0, 1, 3, 0, 0, 0, 0, 0, 0, 0, 0, 0]⟩, .int .i64 0]) ∧ Below W.heap.size W w' := fun W => by
    have := span_any W 1 2 (by decide) (by decide) (by decide) (by decide)
    rwa [ex_spF, ex_spT, ex_spE] at this
  have hrd : ∀ W, Calls Try.prog 12 #[.string exK] W fun e w' => e = .returned (.tuple #[.agg #[.int .u32 1, .int .i64 2, .string ⟨#[97]⟩, .int .u32 0], .int .i64 0]) ∧ Below W.heap.size W w' := fun W => by
    have := read_any W exK (by decide)
    obtain ⟨e1, e2⟩ := rd_yes ex_rdOk
    rwa [e1, e2, ex_plOf] at this
  unfold exK at hk1 hrd
  go_enter Try.func9, Try.ntmps9
  go_wp2_with fail
  refine (hk1 _).mono ?_
  rintro e w1 ⟨rfl, hb1⟩
  go_wp2_with fail
  refine (hk2 _).mono ?_
  rintro e w2 ⟨rfl, hb2⟩
  go_wp2_with fail
  refine (hsp _).mono ?_
  rintro e w3 ⟨rfl, hb3⟩
  go_wp2_with fail
  refine (hrd _).mono ?_
  rintro e w4 ⟨rfl, hb4⟩
  have hb : Below w.heap.size w w4 := thenB hb1 (thenB hb2 (thenB hb3 hb4))
  clear hk1 hk2 hsp hrd hb1 hb2 hb3 hb4
  go_wp2
  go_ret
  exact ⟨rfl, thenB hb ((Below.refl _ _).alloc (Nat.le_refl _) _)⟩

end Go.Proofs.Ytmbiapobibfbaaa
