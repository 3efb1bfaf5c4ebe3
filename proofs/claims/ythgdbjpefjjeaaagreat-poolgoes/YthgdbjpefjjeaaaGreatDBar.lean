/- Barrier. -/
import Derived.Test.YthgdbjpefjjeaaaGreatDCut
namespace Go.Proofs.YthgdbjpefjjeaaaGreat
open Go.RowKit Go.Maps
set_option linter.unusedVariables false

/-- All that is pending is safe. -/
def allSafe (s : St) : St := settleN (fun _ => true) s (keysOf s.pend) (keysOf s.pend).length

/-- What Barrier tells, and what the disk is then. -/
def barOut (s : St) : Int × St := if s.off then (20, s) else if due s then (20, cutSt s s.mask) else (0, allSafe s)

end Go.Proofs.YthgdbjpefjjeaaaGreat
