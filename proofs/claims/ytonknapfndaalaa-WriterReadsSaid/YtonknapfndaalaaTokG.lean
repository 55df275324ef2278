/- The token that comes: the walk of the reference's Next. -/
import Derived.Test.YtonknapfndaalaaGk
import Derived.Test.YtonknapfndaalaaQuoteY
import Derived.BigRegion
import Derived.Deep.QuietTactic
namespace Go.Proofs.Ytonknapfndaalaa
set_option linter.unusedVariables false
set_option maxRecDepth 1000000
open Go.RowKit
end Go.Proofs.Ytonknapfndaalaa
