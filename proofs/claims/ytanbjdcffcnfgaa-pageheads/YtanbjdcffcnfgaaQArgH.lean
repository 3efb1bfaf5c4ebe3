/- A head that is handed in. -/
import Derived.Test.YtanbjdcffcnfgaaQHead
import Derived.Test.YtanbjdcffcnfgaaQArg
namespace Go.Proofs.Ytanbjdcffcnfgaa
open Go.RowKit
set_option linter.unusedVariables false

set_option maxRecDepth 100000 in
theorem head_of {H : Type} {enc : TypeId × Value → H} {W : World} {base : Nat} {held : Bool} {fuel : Nat} {cs : Array Value} {x : DataW H × List MemPlace} (hc : cs.size = Try.prog.cellsOf 40)
    (h : DataW.trod enc Try.prog W base (fun _ => true) held fuel 40 (Value.agg cs).cells.toList = some x) : ∃ p : Hd, HdOk p ∧ Value.agg cs = hdV p := by
  obtain ⟨xs, k, hk, hxy, _, hxl, hf⟩ := DataW.trod_struct Try.underlying40 h
  have hxl : xs.length = 6 := hxl
  have hlen : cs.toList.length = 6 := by rw [Array.length_toList, hc]; kernel_rfl
  clear hxy hk h
  obtain ⟨l⟩ := cs
  simp only [Value.cells] at hf
  match xs, hxl, l, hlen with
  | [y0, y1, y2, y3, y4, y5], _, [v0, v1, v2, v3, v4, v5], _ =>
    have g0 : DataW.trod enc Try.prog W base (fun _ => true) held k 37 (([v0, v1, v2, v3, v4, v5].drop 0).take (Try.prog.cellsOf 37)) = some y0 := hf 0 _ rfl
    have g1 : DataW.trod enc Try.prog W base (fun _ => true) held k 37 (([v0, v1, v2, v3, v4, v5].drop 1).take (Try.prog.cellsOf 37)) = some y1 := hf 1 _ rfl
    have g2 : DataW.trod enc Try.prog W base (fun _ => true) held k 37 (([v0, v1, v2, v3, v4, v5].drop 2).take (Try.prog.cellsOf 37)) = some y2 := hf 2 _ rfl
    have g3 : DataW.trod enc Try.prog W base (fun _ => true) held k 38 (([v0, v1, v2, v3, v4, v5].drop 3).take (Try.prog.cellsOf 38)) = some y3 := hf 3 _ rfl
    have g4 : DataW.trod enc Try.prog W base (fun _ => true) held k 38 (([v0, v1, v2, v3, v4, v5].drop 4).take (Try.prog.cellsOf 38)) = some y4 := hf 4 _ rfl
    have g5 : DataW.trod enc Try.prog W base (fun _ => true) held k 38 (([v0, v1, v2, v3, v4, v5].drop 5).take (Try.prog.cellsOf 38)) = some y5 := hf 5 _ rfl
    rw [show Try.prog.cellsOf 37 = 1 from by kernel_rfl] at g0 g1 g2
    rw [show Try.prog.cellsOf 38 = 1 from by kernel_rfl] at g3 g4 g5
    simp only [List.drop_zero, List.drop_succ_cons, List.take_succ_cons, List.take_zero] at g0 g1 g2 g3 g4 g5
    obtain ⟨z0, e0, _, w0⟩ := DataW.trod_int Try.underlying37 g0
    obtain ⟨z1, e1, _, w1⟩ := DataW.trod_int Try.underlying37 g1
    obtain ⟨z2, e2, _, w2⟩ := DataW.trod_int Try.underlying37 g2
    obtain ⟨z3, e3, _, w3⟩ := DataW.trod_int Try.underlying38 g3
    obtain ⟨z4, e4, _, w4⟩ := DataW.trod_int Try.underlying38 g4
    obtain ⟨z5, e5, _, w5⟩ := DataW.trod_int Try.underlying38 g5
    simp only [List.cons.injEq, and_true] at e0 e1 e2 e3 e4 e5
    subst e0 e1 e2 e3 e4 e5
    obtain ⟨a0, b0⟩ := bounds_u64 w0
    obtain ⟨a1, b1⟩ := bounds_u64 w1
    obtain ⟨a2, b2⟩ := bounds_u64 w2
    obtain ⟨a3, b3⟩ := bounds_u32 w3
    obtain ⟨a4, b4⟩ := bounds_u32 w4
    obtain ⟨a5, b5⟩ := bounds_u32 w5
    exact ⟨⟨z0, z1, z2, z3, z4, z5⟩, ⟨a0, b0, a1, b1, a2, b2, a3, b3, a4, b4, a5, b5⟩, rfl⟩

end Go.Proofs.Ytanbjdcffcnfgaa
