import Derived.Test.YthkdnehgamefiaaJx
namespace Go.Proofs.Ythkdnehgamefiaa
set_option linter.unusedVariables false
open Go.RowKit Go.Sort
end Go.Proofs.Ythkdnehgamefiaa
