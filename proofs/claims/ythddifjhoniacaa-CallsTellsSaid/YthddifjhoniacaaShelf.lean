/- The library's contracts that the walks ask for. -/
import Derived.Shelf.Strings.Search1
import Derived.Lib.CutLaws
import Derived.Lib.IndexLaws
import Derived.Lib.IndexEntry
import Derived.Lib.SlicesS
import Derived.Test.YthddifjhoniacaaProg
namespace Go.Proofs.Ythddifjhoniacaa
end Go.Proofs.Ythddifjhoniacaa
