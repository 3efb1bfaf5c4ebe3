/- All of a delta; a row of changes. -/
import Derived.Test.YtmifpeocgikbeabDlAll2
import Derived.Test.YtmifpeocgikbeabME
import Derived.Test.YtmifpeocgikbeabDlN
namespace Go.Proofs.Ytmifpeocgikbeab
open Go.RowKit Go.Maps
set_option linter.unusedVariables false
set_option linter.unusedSimpArgs false
set_option maxRecDepth 100000

theorem DlN.all {B : Nat} {w0 w : World} {p b : Nat} {s : Dl} (h : DlN B w0 w p b s) (hN : s.L.length ≤ 1000) : Calls Try.prog 24 #[.pointer (some ⟨p, 0, none⟩)] w fun e w' =>
    ∃ u, e = .returned u ∧ w'.ownsRow w.heap.size 37 46 u s.L.length (s.L.flatMap cgL) ∧ Below w.heap.size w w' := by
  obtain ⟨v, h1, h2⟩ := h.d
  exact dall_any h1 hN

end Go.Proofs.Ytmifpeocgikbeab
