/- A node that is handed in: how many pairs it can have. -/
import Derived.Test.YtanbjdcffcnfgaaQArg
import Derived.SizedLaws
namespace Go.Proofs.Ytanbjdcffcnfgaa
open Go.RowKit
set_option linter.unusedVariables false

set_option maxRecDepth 100000 in
theorem node_sized {H : Type} {enc : TypeId × Value → H} {W : World} {base : Nat} {held : Bool} {fuel : Nat} {cs : Array Value} {x : DataW H × List MemPlace} (hc : cs.size = Try.prog.cellsOf 26)
    (h : DataW.trod enc Try.prog W base (fun _ => true) held fuel 26 (Value.agg cs).cells.toList = some x)
    {ts : List TypeId} {ds : List (DataW H)} {j : Nat} (hsz : (DataW.weightsEach Try.prog ts ds).all (· ≤ reachBytes) = true) (ht : ts[j]? = some 26) (hd : ds[j]? = some x.1)
    (b : Value) (a1 : Option Addr) (n1 c1 : Nat) (u2 u3 : Value) (hcs : cs = #[b, .slice a1 n1 c1, u2, u3]) : n1 ≤ 4398046511104 := by
  subst hcs
  obtain ⟨xs, k, hk, hxy, _, hxl, hf⟩ := DataW.trod_struct Try.underlying26 h
  have hxl : xs.length = 4 := hxl
  clear hk h
  simp only [Value.cells] at hf
  match xs, hxl with
  | [y0, y1, y2, y3], _ =>
    have g1 : DataW.trod enc Try.prog W base (fun _ => true) held k 22 (([b, .slice a1 n1 c1, u2, u3].drop 1).take (Try.prog.cellsOf 22)) = some y1 := hf 1 _ rfl
    rw [show Try.prog.cellsOf 22 = 1 from by kernel_rfl] at g1
    simp only [List.drop_succ_cons, List.drop_zero, List.take_succ_cons, List.take_zero] at g1
    rcases Deep.open_slice Try.underlying22 g1 with ⟨hcs, _⟩ | ⟨a', l, c, m, n, D, Pl, hcs, hb, hl, hm, hmm, hy, hx⟩
    · simp at hcs
      omega
    · simp at hcs
      obtain ⟨_, rfl, _⟩ := hcs
      have hw1 : ∀ q ∈ y1.1.weights Try.prog 22, q ∈ x.1.weights Try.prog 26 := fun q hq => by
        rw [hxy]
        have := DataW.weights_mem_each (P := Try.prog) (ts := [4, 22, 23, 24]) (ds := [y0.1, y1.1, y2.1, y3.1]) (j := 1) rfl rfl q hq
        simp only [DataW.weights, Try.underlying26]
        exact this
      have hw2 := DataW.weights_mem_each ht hd _ (hw1 ((((List.range n1).map D).length + ((List.range (m - n1)).map fun j => D (n1 + j)).length) * Try.prog.bytesOf 53) (by rw [hy]; simp [DataW.weights, Try.underlying22]))
      have hle := List.all_eq_true.1 hsz _ hw2
      rw [show Try.prog.bytesOf 53 = 32 from by kernel_rfl] at hle
      simp only [List.length_map, List.length_range, reachBytes, decide_eq_true_eq] at hle
      omega

end Go.Proofs.Ytanbjdcffcnfgaa
