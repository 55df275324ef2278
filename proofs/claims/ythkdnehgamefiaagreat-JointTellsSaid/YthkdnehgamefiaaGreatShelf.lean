/- The library's laws that the texts want. -/
import Derived.Shelf.Lays
import Derived.Shelf.RegionOpenPlain
import Derived.Lib.Walk
import Derived.Lib.Strings
import Derived.Lib.Slices
import Derived.Lib.Bytealg
import Derived.BigCall
import Derived.BigGuard
import Derived.Laws.Strings3
import Derived.Lib.RabinKarpLaws
import Derived.Lib.CutLaws
import Derived.Lib.IndexLaws
import Derived.Lib.IndexEntry
import Derived.Lib.SlicesS
import Derived.Test.YthkdnehgamefiaaGreatProg
namespace Go.Proofs.YthkdnehgamefiaaGreat
end Go.Proofs.YthkdnehgamefiaaGreat
