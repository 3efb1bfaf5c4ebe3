/- The contract of codec.Number. -/
import Derived.Test.YtpbokenambjclaaFixed
namespace Go.Proofs.Ytpbokenambjclaa
open Go.RowKit
set_option linter.unusedVariables false
set_option maxRecDepth 4000

end Go.Proofs.Ytpbokenambjclaa
