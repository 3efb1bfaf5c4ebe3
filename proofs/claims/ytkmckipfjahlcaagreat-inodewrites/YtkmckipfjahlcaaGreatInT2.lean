/- More of a pair in a statement. -/
import Derived.Test.YtkmckipfjahlcaaGreatInT
namespace Go.Proofs.YtkmckipfjahlcaaGreat
open Go.RowKit
set_option linter.unusedVariables false
set_option linter.unusedSimpArgs false
set_option maxRecDepth 100000

theorem Pr.kindI {B : Nat} {w0 w : World} {pp : Nat} {a : Sa} {s : Sg} (h : Pr B w0 w pp a s) (ino : Int) (h0 : 0 ≤ ino) (h1 : ino ≤ 4294967295) :
    Calls Tryz.prog 14 #[.pointer (some ⟨a.s, 0, none⟩), .int .u32 ino] w fun e w' => e = .returned (.tuple #[.int .i64 (fdR s ino).1.k, .int .i64 (fdR s ino).2]) ∧ Pr B w0 w' pp a s ∧ KeepI w w' := by
  obtain ⟨X, x, p1, p2⟩ := h.ex
  refine (kind_in p2 ino h0 h1).mono ?_
  rintro e w' ⟨rfl, hb⟩
  exact ⟨rfl, h.below hb, KeepI.below hb⟩
theorem Pr.v0 {B : Nat} {w0 w : World} {pp : Nat} {a : Sa} {s : Sg} (h : Pr B w0 w pp a s) : w.cell? ⟨a.s, 0, none⟩ = some (.pointer (some ⟨a.v, 0, none⟩)) := by
  obtain ⟨X, x, p1, p2⟩ := h.ex
  exact p2.c0
theorem Pr.get {B : Nat} {w0 w : World} {pp : Nat} {a : Sa} {s : Sg} (h : Pr B w0 w pp a s) (q : Pl) (hq : PlOk q) : Calls Tryz.prog 19 #[.pointer (some ⟨a.v, 0, none⟩), plV q] w fun e w' =>
    e = .returned (.tuple #[.agg (itC (vgR s.l s.d q).1), .bool (vgR s.l s.d q).2.1, .int .i64 (vgR s.l s.d q).2.2]) ∧ Below w.heap.size w w' := by
  obtain ⟨X, x, p1, p2⟩ := h.ex
  exact p2.get q hq

theorem stat_two (S : Sg) (ino : Int) : (statR S ino).2 = if (fdR S ino).2 ≠ 0 then (in0, (fdR S ino).2) else ((fdR S ino).1, 0) := by
  unfold statR; split <;> rfl

end Go.Proofs.YtkmckipfjahlcaaGreat
