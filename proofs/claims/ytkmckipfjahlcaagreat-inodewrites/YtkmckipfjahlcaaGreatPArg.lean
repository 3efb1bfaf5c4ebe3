/- A place that is handed in. -/
import Derived.Test.YtkmckipfjahlcaaGreatP1
import Derived.Lib.SmallJoins
import Derived.Deep.Slices
namespace Go.Proofs.YtkmckipfjahlcaaGreat
open Go.RowKit
set_option maxRecDepth 4000
set_option linter.unusedVariables false

set_option maxRecDepth 100000 in
theorem place_of {H : Type} {enc : TypeId × Value → H} {W : World} {base : Nat} {held : Bool} {fuel : Nat} {cs : Array Value} {x : DataW H × List MemPlace} (hc : cs.size = Tryz.prog.cellsOf 70)
    (h : DataW.trod enc Tryz.prog W base (fun _ => true) held fuel 70 (Value.agg cs).cells.toList = some x) : ∃ p : Pl, PlOk p ∧ cs = plCells p := by
  obtain ⟨xs, k, hk, hxy, _, hxl, hf⟩ := DataW.trod_struct Tryz.underlying70 h
  have hxl : xs.length = 4 := hxl
  have hlen : cs.toList.length = 4 := by rw [Array.length_toList, hc]; kernel_rfl
  clear hxy hk h
  obtain ⟨l⟩ := cs
  simp only [Value.cells] at hf
  match xs, hxl, l, hlen with
  | [y0, y1, y2, y3], _, [v0, v1, v2, v3], _ =>
    have g0 : DataW.trod enc Tryz.prog W base (fun _ => true) held k 23 (([v0, v1, v2, v3].drop 0).take (Tryz.prog.cellsOf 23)) = some y0 := hf 0 _ rfl
    have g1 : DataW.trod enc Tryz.prog W base (fun _ => true) held k 3 (([v0, v1, v2, v3].drop 1).take (Tryz.prog.cellsOf 3)) = some y1 := hf 1 _ rfl
    have g2 : DataW.trod enc Tryz.prog W base (fun _ => true) held k 9 (([v0, v1, v2, v3].drop 2).take (Tryz.prog.cellsOf 9)) = some y2 := hf 2 _ rfl
    have g3 : DataW.trod enc Tryz.prog W base (fun _ => true) held k 23 (([v0, v1, v2, v3].drop 3).take (Tryz.prog.cellsOf 23)) = some y3 := hf 3 _ rfl
    rw [show Tryz.prog.cellsOf 23 = 1 from by kernel_rfl] at g0 g3
    rw [show Tryz.prog.cellsOf 3 = 1 from by kernel_rfl] at g1
    rw [show Tryz.prog.cellsOf 9 = 1 from by kernel_rfl] at g2
    simp only [List.drop_zero, List.drop_succ_cons, List.take_succ_cons, List.take_zero] at g0 g1 g2 g3
    obtain ⟨z0, e0, _, w0⟩ := DataW.trod_int Tryz.underlying23 g0
    obtain ⟨z1, e1, _, w1⟩ := DataW.trod_int Tryz.underlying3 g1
    obtain ⟨z2, e2, _, w2⟩ := DataW.trod_string Tryz.underlying9 g2
    obtain ⟨z3, e3, _, w3⟩ := DataW.trod_int Tryz.underlying23 g3
    simp only [List.cons.injEq, and_true] at e0 e1 e2 e3
    subst e0 e1 e2 e3
    obtain ⟨a0, a1⟩ := bounds_u32 w0
    obtain ⟨b0, b1⟩ := bounds_i64 w1
    obtain ⟨c0, c1⟩ := bounds_u32 w3
    exact ⟨⟨z0, z1, z2, z3⟩, ⟨a0, a1, b0, b1, w2, c0, c1⟩, rfl⟩

end Go.Proofs.YtkmckipfjahlcaaGreat
