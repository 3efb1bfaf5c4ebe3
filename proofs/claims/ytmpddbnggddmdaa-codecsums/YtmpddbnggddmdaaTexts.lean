/- The contract of the examples of texts: they come out true. -/
import Derived.Test.YtmpddbnggddmdaaRefText
import Derived.Lib.SlBytesConst
namespace Go.Proofs.Ytmpddbnggddmdaa
open Go.RowKit
set_option linter.unusedVariables false

/-- 'string(v)' of a slice that reads as the bytes xs. -/
theorem Rd.conv {w : World} {v : Value} {xs : List Int} (h : Rd w v xs) : (convert 23 9 v).run Try.prog w = .ok (.string (strOfNums xs)) w := by
  obtain ⟨a, cap, rfl, h1, h2, _, h3⟩ := h
  cases xs with
  | nil => exact conv_none w a cap
  | cons x r =>
    obtain ⟨b, off, rfl, hlt, hc⟩ := h3 (by simp)
    exact run_convert_bytes_arg w 23 5 Try.underlying23 Try.underlying5 b off _ cap (x :: r) rfl hc 9 Try.underlying9

/-- A row that was just laid, whatever its mark, reads as its bytes. -/
theorem Rd.laid {w : World} {cs : Array Value} {n : Nat} {xs : List Int} {fr : Nat × Nat} (hn : n = xs.length) (hm : n ≤ maxLen) (hc : cs.toList = xs.map (Value.int .u8)) :
    Rd (w.alloc (.cells cs 5 fr)) (.slice (some ⟨w.heap.size, 0, none⟩) n n) xs := by
  subst hn
  refine ⟨_, _, rfl, Nat.le_refl _, hm, (by intro e; cases e), fun _ => ⟨_, _, rfl, by simp, fun i hi => ?_⟩⟩
  rw [Nat.zero_add, cell_of_row _ _ i cs 5 fr (heap_alloc_new w _), ← Array.getElem?_toList, hc]
  simp [List.getElem?_eq_getElem hi]

set_option maxHeartbeats 400000 in
theorem texts_any (w : World) : Calls Try.prog 14 #[] w fun e w' => e = .returned (.bool true) ∧ Below w.heap.size w w' := by
  have kc := fun (w : World) (C : Array Value) (n c : Nat) => Lib.run_convert_bytes_const (P := Try.prog) w 23 5 C n c Try.underlying23 Try.underlying5
  go_enter Try.func14, Try.ntmps14
  go_wp2_with fail
  refine (text_any _ _ (by decide)).mono ?_
  rintro e w1 ⟨v1, rfl, ho1, hb1⟩
  have hv1 := ho1.rd
  clear ho1
  go_wp2_with fail
  refine (readText_any _ _ [2, 97, 98, 99] ?_ ?_).mono ?_
  · exact Rd.laid (cs := #[.int .u8 2, .int .u8 97, .int .u8 98, .int .u8 99]) (by rfl) (by decide) rfl
  · unfold Byt; decide
  rintro e w2 ⟨rfl, rfl⟩
  have hb2 : Below w1.heap.size w1 (w1.alloc (.cells #[.int .u8 2, .int .u8 97, .int .u8 98, .int .u8 99] 5 (4, 5))) := (Below.refl _ _).alloc (Nat.le_refl _) _
  have hcv := (hv1.below hb2).conv
  have e1 : strOfNums (textB ⟨#[97, 98]⟩) = ⟨#[2, 97, 98]⟩ := by decide
  have e2 : textE ⟨#[97, 98]⟩ = 0 := by decide
  have e3 : readS [2, 97, 98, 99] = ⟨#[97, 98]⟩ := by decide
  have e4 : readN [2, 97, 98, 99] = 3 := by decide
  have e5 : readE [2, 97, 98, 99] = 0 := by decide
  rw [e1] at hcv
  rw [e2, e3, e4, e5]
  clear e1 e2 e3 e4 e5
  go_wp2
  go_ret
  exact ⟨rfl, hb1.trans (hb2.mono hb1.size)⟩
end Go.Proofs.Ytmpddbnggddmdaa
