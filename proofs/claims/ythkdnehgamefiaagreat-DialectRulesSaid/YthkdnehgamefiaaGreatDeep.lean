import Derived.Test.YthkdnehgamefiaaGreatHl
namespace Go.Proofs.YthkdnehgamefiaaGreat
set_option linter.unusedVariables false
set_option maxRecDepth 1000000
open Go.RowKit Go.Sort
end Go.Proofs.YthkdnehgamefiaaGreat
