/- An inode, and 32 bytes, that are handed in. -/
import Derived.Test.YtmifpeocgikbeabIState
import Derived.Lib.SmallJoins
import Derived.Deep.Slices
import Derived.OpenShut
import Derived.WideShapes
namespace Go.Proofs.Ytmifpeocgikbeab
open Go.RowKit
set_option maxRecDepth 4000
set_option linter.unusedVariables false

def inoV (k m l s : Int) : Array Value := #[.int .i64 k, .int .i64 m, .int .i64 l, .int .i64 s]

set_option maxRecDepth 100000 in
theorem inode_of {H : Type} {enc : TypeId × Value → H} {W : World} {base : Nat} {held : Bool} {fuel : Nat} {cs : Array Value} {x : DataW H × List MemPlace} (hc : cs.size = Try.prog.cellsOf 32)
    (h : DataW.trod enc Try.prog W base (fun _ => true) held fuel 32 (Value.agg cs).cells.toList = some x) : ∃ k m l s : Int, InoOk k m l s ∧ cs = inoV k m l s := by
  obtain ⟨xs, n, hk, hxy, _, hxl, hf⟩ := DataW.trod_struct Try.underlying32 h
  have hxl : xs.length = 4 := hxl
  have hlen : cs.toList.length = 4 := by rw [Array.length_toList, hc]; kernel_rfl
  clear hxy hk h
  obtain ⟨l⟩ := cs
  simp only [Value.cells] at hf
  match xs, hxl, l, hlen with
  | [y0, y1, y2, y3], _, [v0, v1, v2, v3], _ =>
    have g0 : DataW.trod enc Try.prog W base (fun _ => true) held n 3 (([v0, v1, v2, v3].drop 0).take (Try.prog.cellsOf 3)) = some y0 := hf 0 _ rfl
    have g1 : DataW.trod enc Try.prog W base (fun _ => true) held n 3 (([v0, v1, v2, v3].drop 1).take (Try.prog.cellsOf 3)) = some y1 := hf 1 _ rfl
    have g2 : DataW.trod enc Try.prog W base (fun _ => true) held n 3 (([v0, v1, v2, v3].drop 2).take (Try.prog.cellsOf 3)) = some y2 := hf 2 _ rfl
    have g3 : DataW.trod enc Try.prog W base (fun _ => true) held n 3 (([v0, v1, v2, v3].drop 3).take (Try.prog.cellsOf 3)) = some y3 := hf 3 _ rfl
    rw [show Try.prog.cellsOf 3 = 1 from by kernel_rfl] at g0 g1 g2 g3
    simp only [List.drop_zero, List.drop_succ_cons, List.take_succ_cons, List.take_zero] at g0 g1 g2 g3
    obtain ⟨z0, e0, _, w0⟩ := DataW.trod_int Try.underlying3 g0
    obtain ⟨z1, e1, _, w1⟩ := DataW.trod_int Try.underlying3 g1
    obtain ⟨z2, e2, _, w2⟩ := DataW.trod_int Try.underlying3 g2
    obtain ⟨z3, e3, _, w3⟩ := DataW.trod_int Try.underlying3 g3
    simp only [List.cons.injEq, and_true] at e0 e1 e2 e3
    subst e0 e1 e2 e3
    obtain ⟨a0, a1⟩ := bounds_i64 w0
    obtain ⟨b0, b1⟩ := bounds_i64 w1
    obtain ⟨c0, c1⟩ := bounds_i64 w2
    obtain ⟨d0, d1⟩ := bounds_i64 w3
    exact ⟨z0, z1, z2, z3, ⟨a0, a1, b0, b1, c0, c1, d0, d1⟩, rfl⟩

theorem okWide_arr {w : World} {r : Reach} {base : Nat} {t : TypeId} {v : Value} {n : Nat} {e : TypeId} (ht : Try.prog.underlying t = some (.array n e)) (h : Value.okWide Try.prog w r base t v) : ∃ cs, v = .agg cs ∧ cs.size = Try.prog.cellsOf t := by
  simp only [Value.okWide, ht] at h
  obtain ⟨cs, h1, h2, _⟩ := h
  exact ⟨cs, h1, h2⟩

set_option maxRecDepth 100000 in
theorem chunk_of {H : Type} {enc : TypeId × Value → H} {W : World} {base : Nat} {held : Bool} {fuel : Nat} {cs : Array Value} {x : DataW H × List MemPlace} (hc : cs.size = Try.prog.cellsOf 33)
    (h : DataW.trod enc Try.prog W base (fun _ => true) held fuel 33 (Value.agg cs).cells.toList = some x) : ∃ b : List Int, Ch b ∧ cs = bytesV b := by
  obtain ⟨xs, n, hk, hxy, _, hxl, hf⟩ := DataW.trod_array Try.underlying33 h
  have hlen : cs.toList.length = 32 := by rw [Array.length_toList, hc]; kernel_rfl
  have hone : Try.prog.cellsOf 5 = 1 := by kernel_rfl
  rw [hone] at hf
  simp only [Value.cells, Nat.mul_one] at hf
  clear hk hxy h hc
  have key : ∀ L : List Value, L.length ≤ 32 → (∀ i, i < L.length → ∃ z : Int, L[i]? = some (.int .u8 z) ∧ 0 ≤ z ∧ z ≤ 255) → ∃ b : List Int, b.length = L.length ∧ Byt b ∧ L = b.map (Value.int .u8) := by
    intro L
    induction L with
    | nil => intro _ _; exact ⟨[], rfl, Byt.nil, rfl⟩
    | cons v L ih =>
      intro hl hz
      obtain ⟨b, hb1, hb2, hb3⟩ := ih (by simp at hl; omega) (fun i hi => by
        obtain ⟨z, h1, h2⟩ := hz (i + 1) (by simp; omega)
        exact ⟨z, by simpa using h1, h2⟩)
      obtain ⟨z, h1, h2, h3⟩ := hz 0 (by simp)
      simp only [List.getElem?_cons_zero, Option.some.injEq] at h1
      refine ⟨z :: b, by simp [hb1], fun y hy => ?_, by rw [h1, hb3]; rfl⟩
      rcases List.mem_cons.1 hy with rfl | hy
      · exact ⟨h2, h3⟩
      · exact hb2 y hy
  obtain ⟨b, hb1, hb2, hb3⟩ := key cs.toList (by omega) (fun i hi => by
    have hi32 : i < 32 := by omega
    have hfi := hf i hi32
    have ht : (cs.toList.drop i).take 1 = [cs.toList[i]] := by
      rw [List.drop_eq_getElem_cons hi]; rfl
    rw [ht] at hfi
    cases hx : xs[i]? with
    | none =>
      have hxl32 : xs.length = 32 := hxl
      have := List.getElem?_eq_none_iff.1 hx
      omega
    | some y =>
      rw [hx] at hfi
      obtain ⟨z, e0, _, w0⟩ := DataW.trod_int Try.underlying5 hfi
      simp only [List.cons.injEq, and_true] at e0
      obtain ⟨a0, a1⟩ := bounds_u8 w0
      exact ⟨z, by rw [List.getElem?_eq_getElem hi, e0], a0, a1⟩)
  exact ⟨b, ⟨by omega, hb2⟩, Array.ext' (by rw [hb3]; rfl)⟩

end Go.Proofs.Ytmifpeocgikbeab
