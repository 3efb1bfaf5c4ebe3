/- The contract of codec.Fixed. -/
import Derived.Test.YtpbokenambjclaaLaws
import Derived.Test.YtpbokenambjclaaNumMath
namespace Go.Proofs.Ytpbokenambjclaa
open Go.RowKit
set_option linter.unusedVariables false
set_option maxRecDepth 4000

end Go.Proofs.Ytpbokenambjclaa
