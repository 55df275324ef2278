import Derived.Test.YthddifjhoniacaaMa
namespace Go.Proofs.Ythddifjhoniacaa
set_option linter.unusedVariables false
open Go.RowKit Go.Sort
end Go.Proofs.Ythddifjhoniacaa
