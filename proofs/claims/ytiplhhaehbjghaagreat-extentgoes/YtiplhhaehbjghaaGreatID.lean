/- InDo, InDo2, InDo3, InDo4, InDo5, InAll: in one text. -/
import Derived.Test.YtiplhhaehbjghaaGreatM1
import Derived.Test.YtiplhhaehbjghaaGreatIK
import Derived.Deep.RegionHeld3
import Derived.Deep.CutRange
namespace Go.Proofs.YtiplhhaehbjghaaGreat
open Go.RowKit
set_option linter.unusedVariables false
set_option maxHeartbeats 32000000
set_option maxRecDepth 100000
set_option linter.unusedSimpArgs false
open Go.RowKit Go.Maps
theorem PrAt.cx {w : World} {pp : Nat} {a : Sa} {x : Nat} (h : PrAt w pp a x) : w.cell? ⟨pp, 2, none⟩ = some (.pointer (some ⟨x, 0, none⟩)) := by rw [cell_of_row _ _ _ _ _ (0, 0) h]; rfl
open Go.RowKit Go.Maps
open Go.RowKit Go.Maps
open Go.RowKit Go.Maps
open Go.RowKit Go.Maps
theorem Bo.lts {B : Nat} {w0 w : World} {pp : Nat} {a : Sa} {x : Nat} {Z : List Nat} {s t : Sg} (h : Bo B w0 w pp a x Z s t) : ∀ k ∈ pp :: a.s :: a.v :: a.g :: Z, k < w.heap.size := fun k hk => by
 obtain ⟨X, Y, p, g1, g2, hd, hz⟩ := h.ex
 exact (hz k hk).2.2
open Go.RowKit Go.Maps
theorem Bo.n {B : Nat} {w0 w : World} {pp : Nat} {a : Sa} {x : Nat} {Z : List Nat} {s t : Sg} (h : Bo B w0 w pp a x Z s t) : 0 ≤ s.n ∧ s.n ≤ 4294967295 := by
 obtain ⟨X, Y, p, g, _⟩ := h.ex
 exact sg_n g
end Go.Proofs.YtiplhhaehbjghaaGreat
