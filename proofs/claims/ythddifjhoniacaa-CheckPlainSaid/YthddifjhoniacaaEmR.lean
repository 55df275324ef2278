import Derived.Test.YthddifjhoniacaaIa
namespace Go.Proofs.Ythddifjhoniacaa
set_option linter.unusedVariables false
open Go.RowKit Go.Sort
end Go.Proofs.Ythddifjhoniacaa
