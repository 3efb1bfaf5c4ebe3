/- The contract of item.read, whatever the part. -/
import Derived.Test.YtflkbcdeogdodaaIRead
namespace Go.Proofs.Ytflkbcdeogdodaa
open Go.RowKit
set_option linter.unusedVariables false

set_option maxHeartbeats 1000000 in
theorem read_2 (w : World) (v : Value) (xs : List Int) (hr : Rd w v xs) (hy : Byt xs) (hl : xs.length = 4) :
    Calls Try.prog 22 #[.int .i64 2, v] w fun e w' => e = .returned (thV 2 (rdI 2 xs)) ∧ Below w.heap.size w w' := by
  have hn := numberI_any w v xs hr hy (by omega) (by omega)
  have hb := valB_small xs hy 4 (by omega) (by omega)
  rw [thV_2, rdI_2]
  dsimp only
  generalize valB xs = a at *
  clear hr hy hl
  go_enter Try.func22, Try.ntmps22
  go_wp2_with fail
  refine hn.mono ?_
  rintro e w1 ⟨rfl, rfl⟩
  have HW : Hid (IntKind.u32.wrap (a : Int) = a) := by unfold Hid; rw [IntKind.wrap_u32]; omega
  go_wp2
  go_ret
  refine ⟨?_, Below.refl _ _⟩
  try rfl

theorem Rd.range {w : World} {b off n cap : Nat} {xs : List Int} (h : Rd w (.slice (some ⟨b, off, none⟩) n cap) xs) : w.rangeAt b off (xs.map (Value.int .u8)) := by
  intro j v hv
  have hj : j < xs.length := by
    rcases Nat.lt_or_ge j xs.length with h | h
    · exact h
    · rw [List.getElem?_eq_none (by simpa using h)] at hv; cases hv
  obtain ⟨a, c, e, h1, h2, h3, h4⟩ := h
  have ha : a = some ⟨b, off, none⟩ := by simp only [Value.slice.injEq] at e; exact e.1.symm
  subst ha
  obtain ⟨b', off', e', hlt, hc⟩ := h4 (by intro e; subst e; simp at hj)
  simp only [Option.some.injEq, Addr.mk.injEq] at e'
  obtain ⟨rfl, rfl, _⟩ := e'
  rw [hc j hj, ← hv]
  simp [List.getElem?_eq_getElem hj]

set_option maxHeartbeats 1000000 in
theorem read_3 (w : World) (b off cap : Nat) (xs : List Int) (hr : Rd w (.slice (some ⟨b, off, none⟩) 32 cap) xs) :
    Calls Try.prog 22 #[.int .i64 3, .slice (some ⟨b, off, none⟩) 32 cap] w fun e w' => e = .returned (thV 3 (rdI 3 xs)) ∧ Below w.heap.size w w' := by
  have hl := rd_length hr
  have HR : Hid (w.rangeAt b off (xs.map (Value.int .u8))) := hr.range
  have HS : Hid ((Try.prog.info? 57).map (·.size) = some (xs.map (Value.int .u8)).length) := by unfold Hid; rw [List.length_map, hl]; exact size_data
  rw [thV_3 (by decide) (by decide), rdI_3 (by decide) (by decide)]
  dsimp only
  have har : ∀ W, (Instr.arrayAt 57 (.slice (some ⟨b, off, none⟩) 32 cap)).run Try.prog W = .ok (.pointer (some ⟨b, off, none⟩)) W := fun W => by simp [Instr.arrayAt, run_underlying Try.underlying57]
  clear hr hl
  go_enter Try.func22, Try.ntmps22
  go_wp2_with (refine wpList_load_mid rfl 57 _ rfl b off rfl _ _ HR.out Try.underlying57 rfl HS.out ?_)
  go_ret
  exact ⟨rfl, Below.refl _ _⟩

theorem readI_any (w : World) (p : Int) (v : Value) (xs : List Int) (hr : Rd w v xs) (hy : Byt xs) (hl : (xs.length : Int) = wid p) (hp : wid p ≠ 0) :
    Calls Try.prog 22 #[.int .i64 p, v] w fun e w' => e = .returned (thV p (rdI p xs)) ∧ Below w.heap.size w w' := by
  rcases wid_cases p with ⟨rfl, hw⟩ | ⟨rfl, hw⟩ | ⟨rfl, hw⟩ | ⟨h1, h2, h3, hw⟩
  · obtain ⟨b, off, cap, rfl⟩ := hr.opened 6 (by omega) (by omega)
    exact read_1 w b off cap xs hr hy
  · exact read_2 w v xs hr hy (by omega)
  · obtain ⟨b, off, cap, rfl⟩ := hr.opened 32 (by omega) (by omega)
    exact read_3 w b off cap xs hr
  · exact absurd hw hp

end Go.Proofs.Ytflkbcdeogdodaa
