import Derived.Test.YthkdnehgamefiaaGreatHg
namespace Go.Proofs.YthkdnehgamefiaaGreat
set_option linter.unusedVariables false
set_option maxRecDepth 1000000
open Go.RowKit
end Go.Proofs.YthkdnehgamefiaaGreat
