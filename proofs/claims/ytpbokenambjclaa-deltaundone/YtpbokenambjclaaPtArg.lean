/- A patch that is handed in. -/
import Derived.Test.YtpbokenambjclaaPtState
import Derived.Test.YtpbokenambjclaaIArg
namespace Go.Proofs.Ytpbokenambjclaa
open Go.RowKit
set_option maxRecDepth 4000
set_option linter.unusedVariables false

set_option maxRecDepth 100000 in
theorem patch_of {H : Type} {enc : TypeId × Value → H} {W : World} {base : Nat} {held : Bool} {fuel : Nat} {cs : Array Value} {x : DataW H × List MemPlace} (hc : cs.size = Try.prog.cellsOf 29)
    (h : DataW.trod enc Try.prog W base (fun _ => true) held fuel 29 (Value.agg cs).cells.toList = some x) : ∃ p : Pt, PtOk p ∧ cs = ptC p := by
  obtain ⟨xs, n, hk, hxy, _, hxl, hf⟩ := DataW.trod_struct Try.underlying29 h
  have hxl : xs.length = 3 := hxl
  have hlen : cs.toList.length = 34 := by rw [Array.length_toList, hc]; kernel_rfl
  clear hxy hk h
  obtain ⟨l⟩ := cs
  simp only [Value.cells] at hf
  match xs, hxl, l, hlen with
  | [y0, y1, y2], _, v0 :: v1 :: r, hlen =>
    have hr : r.length = 32 := by simpa using hlen
    have g0 : DataW.trod enc Try.prog W base (fun _ => true) held n 4 (((v0 :: v1 :: r).drop 0).take (Try.prog.cellsOf 4)) = some y0 := hf 0 _ rfl
    have g1 : DataW.trod enc Try.prog W base (fun _ => true) held n 22 (((v0 :: v1 :: r).drop 1).take (Try.prog.cellsOf 22)) = some y1 := hf 1 _ rfl
    have g2 : DataW.trod enc Try.prog W base (fun _ => true) held n 27 (((v0 :: v1 :: r).drop 2).take (Try.prog.cellsOf 27)) = some y2 := hf 2 _ rfl
    rw [show Try.prog.cellsOf 4 = 1 from by kernel_rfl] at g0
    rw [show Try.prog.cellsOf 22 = 1 from by kernel_rfl] at g1
    rw [show Try.prog.cellsOf 27 = 32 from by kernel_rfl] at g2
    simp only [List.drop_zero, List.drop_succ_cons, List.take_succ_cons, List.take_zero] at g0 g1
    rw [show ((v0 :: v1 :: r).drop 2).take 32 = (Value.agg r.toArray).cells.toList from by
      show r.take 32 = r
      exact List.take_of_length_le (by omega)] at g2
    obtain ⟨z0, e0, _⟩ := DataW.trod_bool Try.underlying4 g0
    obtain ⟨z1, e1, _, w1⟩ := DataW.trod_int Try.underlying22 g1
    simp only [List.cons.injEq, and_true] at e0 e1
    subst e0 e1
    obtain ⟨b, hb, eb⟩ := chunk_of (cs := r.toArray) (by rw [show Try.prog.cellsOf 27 = 32 from by kernel_rfl]; simpa using hr) g2
    obtain ⟨m0, m1⟩ := bounds_u32 w1
    have er : r = b.map (Value.int .u8) := by simpa [bytesV] using congrArg Array.toList eb
    obtain ⟨m, rfl⟩ : ∃ m : Nat, z1 = m := ⟨z1.toNat, by omega⟩
    refine ⟨⟨z0, m, b⟩, ⟨by show m < 4294967296; omega, hb⟩, ?_⟩
    rw [er]; rfl

end Go.Proofs.Ytpbokenambjclaa
