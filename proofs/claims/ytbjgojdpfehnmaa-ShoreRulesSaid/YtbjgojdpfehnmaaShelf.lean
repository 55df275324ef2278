/- The library's contracts that these texts use. -/
import Derived.Shelf.Strings.Search1
import Derived.Lib.CutLaws
import Derived.Lib.IndexLaws
import Derived.Lib.IndexEntry
import Derived.Lib.SlicesS
import Derived.Test.YtbjgojdpfehnmaaProg
namespace Go.Proofs.Ytbjgojdpfehnmaa
end Go.Proofs.Ytbjgojdpfehnmaa
