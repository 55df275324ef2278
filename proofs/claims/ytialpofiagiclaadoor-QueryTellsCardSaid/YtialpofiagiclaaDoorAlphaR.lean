/- The walk of alphabet.Range. -/
import Derived.Test.YtialpofiagiclaaDoorHf
namespace Go.Proofs.YtialpofiagiclaaDoor
set_option linter.unusedVariables false
set_option maxRecDepth 1000000
open Go.RowKit
end Go.Proofs.YtialpofiagiclaaDoor
