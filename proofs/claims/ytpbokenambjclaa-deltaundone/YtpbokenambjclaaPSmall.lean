/- The contracts of place.record, entry, data, fixed, number; a place that is handed back. -/
import Derived.Test.YtpbokenambjclaaPState
import Derived.Test.YtpbokenambjclaaNumber
import Derived.Laws.Rows
namespace Go.Proofs.Ytpbokenambjclaa
open Go.RowKit
set_option maxRecDepth 4000
set_option linter.unusedVariables false

/-- A function whose only result lies in a variable hands that place back. -/
theorem ret_place {fn : Func} {R : Ending → World → Prop} {a : Act} {w : World} {p : Tmp} (h : fn.results = #[.cell p 24]) (g : Nat) (q : Pl) {t : TypeId} {fr : Nat × Nat} (hp : a.tmps.getD p undef = .pointer (some ⟨g, 0, none⟩))
    (hg : w.heap[g]? = some (.cells (plCells q) t fr)) (hd : a.defers = []) (hR : R (.returned (plV q)) w) : bodyPost Try.prog fn R .ret a w :=
  bodyPost_ret (results_cell_row h a.tmps w g t (plCells q) fr _ hp hg Try.underlying24 rfl (by kernel_rfl)) hd hR

/-- As 'ret_place', with an error's number beside it. -/
theorem ret_place2 {fn : Func} {R : Ending → World → Prop} {a : Act} {w : World} {p u : Tmp} (h : fn.results = #[.cell p 24, .tmp u]) (g : Nat) (q : Pl) {t : TypeId} {fr : Nat × Nat} (hp : a.tmps.getD p undef = .pointer (some ⟨g, 0, none⟩)) (v : Value) (hu : a.tmps.getD u undef = v)
    (hg : w.heap[g]? = some (.cells (plCells q) t fr)) (hd : a.defers = []) (hR : R (.returned (.tuple #[plV q, v])) w) : bodyPost Try.prog fn R .ret a w := by
  refine bodyPost_ret ?_ hd hR
  have hp' : a.tmps[p]?.getD undef = .pointer (some ⟨g, 0, none⟩) := by simpa using hp
  have hu' : a.tmps[u]?.getD undef = v := by simpa using hu
  have hl := run_loadVar_row (P := Try.prog) w g t 24 (plCells q) fr _ hg Try.underlying24 rfl (by kernel_rfl)
  simp [results, h, hp', hu', asAddr, hl, Result.andThen]
  rfl

set_option maxHeartbeats 400000 in
theorem record_any (w : World) (i : Int) : Calls Try.prog 72 #[.int .u32 i] w fun e w' => e = .returned (plV (recP i)) ∧ Below w.heap.size w w' := by
  go_enter Try.func72, Try.ntmps72
  go_wp2
  exact ret_place rfl w.heap.size (recP i) rfl (heap_alloc_new w _) rfl ⟨rfl, (Below.refl _ _).alloc (Nat.le_refl _) _⟩

set_option maxHeartbeats 400000 in
theorem entry_any (w : World) (i : Int) (s : ByteArray) : Calls Try.prog 73 #[.int .u32 i, .string s] w fun e w' => e = .returned (plV (entP i s)) ∧ Below w.heap.size w w' := by
  go_enter Try.func73, Try.ntmps73
  go_wp2
  exact ret_place rfl w.heap.size (entP i s) rfl (heap_alloc_new w _) rfl ⟨rfl, (Below.refl _ _).alloc (Nat.le_refl _) _⟩

set_option maxHeartbeats 400000 in
theorem data_any (w : World) (i c : Int) : Calls Try.prog 75 #[.int .u32 i, .int .u32 c] w fun e w' => e = .returned (plV (datP i c)) ∧ Below w.heap.size w w' := by
  go_enter Try.func75, Try.ntmps75
  go_wp2
  exact ret_place rfl w.heap.size (datP i c) rfl (heap_alloc_new w _) rfl ⟨rfl, (Below.refl _ _).alloc (Nat.le_refl _) _⟩

/-- Four bytes always serve. -/
theorem fixE_four (n : Int) (h0 : 0 ≤ n) (h1 : n ≤ 4294967295) : fixE n 4 = 0 := by
  unfold fixE
  rw [if_neg (by omega)]
  have : ((n : Int) / 2 ^ (8 * (4 : Int).toNat) != 0) = false := by
    rw [bne_eq_false_iff_eq, show (2 : Int) ^ (8 * (4 : Int).toNat) = 4294967296 from by decide]
    omega
  rw [this]; rfl

theorem fixL_four (n : Int) (h0 : 0 ≤ n) (h1 : n ≤ 4294967295) : fixL n 4 = fixB n.toNat 4 := by
  unfold fixL; rw [if_pos (fixE_four n h0 h1)]; rfl

/-- Whether two places are one. -/
def plEq (a b : Pl) : Bool := a.ino == b.ino && a.part == b.part && a.name.toList == b.name.toList && a.chunk == b.chunk

theorem plEq_iff {a b : Pl} : plEq a b = true ↔ a = b := by
  obtain ⟨i, k, s, c⟩ := a
  obtain ⟨i', k', s', c'⟩ := b
  simp only [plEq, Bool.and_eq_true, beq_iff_eq, Pl.mk.injEq]
  constructor
  · rintro ⟨⟨⟨rfl, rfl⟩, h⟩, rfl⟩
    refine ⟨rfl, rfl, ?_, rfl⟩
    rw [ByteArray.toList_eq, ByteArray.toList_eq] at h
    obtain ⟨d⟩ := s
    obtain ⟨d'⟩ := s'
    exact congrArg ByteArray.mk (Array.ext' h)
  · rintro ⟨rfl, rfl, rfl, rfl⟩
    exact ⟨⟨⟨rfl, rfl⟩, rfl⟩, rfl⟩

/-- '==' of two places. -/
theorem equal_places (w : World) (i k c i' k' c' : Int) (s s' : ByteArray) : (Op.equalIn 10000 24 (.agg #[.int .u32 i, .int .i64 k, .string s, .int .u32 c]) (.agg #[.int .u32 i', .int .i64 k', .string s', .int .u32 c'])).run Try.prog w = .ok (plEq ⟨i, k, s, c⟩ ⟨i', k', s', c'⟩) w := by
  have u3 := Try.underlying3
  have u9 := Try.underlying9
  have u22 := Try.underlying22
  have hS : Try.prog.underlying 24 = some (.struct (Try.prog.fieldsOf 24)) := by kernel_rfl
  have hp : Try.prog.stoodInHeld 24 = false := by kernel_rfl
  rw [show (10000 : Nat) = 9999 + 1 from rfl, run_equalIn_agg w 9999 _ _ _ hS hp]
  simp only [Program.fieldsOf, Try.underlying24]
  go_simp
  unfold plEq
  by_cases h1 : i = i' <;> by_cases h2 : k = k' <;> by_cases h3 : s.toList = s'.toList <;> by_cases h4 : c = c' <;> simp [h1, h2, h3, h4]

theorem eq_places (w : World) (i k c i' k' c' : Int) (s s' : ByteArray) : (binOp .eql 24 (.agg #[.int .u32 i, .int .i64 k, .string s, .int .u32 c]) (.agg #[.int .u32 i', .int .i64 k', .string s', .int .u32 c'])).run Try.prog w = .ok (.bool (plEq ⟨i, k, s, c⟩ ⟨i', k', s', c'⟩)) w := by
  rw [run_eql_struct, equal_places]
  rfl

end Go.Proofs.Ytpbokenambjclaa
