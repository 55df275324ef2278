/- The library's modules that the walks import. -/
import Derived.Shelf.Strings.Search1
import Derived.Lib.CutLaws
import Derived.Lib.IndexLaws
import Derived.Lib.IndexEntry
import Derived.Lib.SlicesS
import Derived.Test.YtgikhkjnemglbaaProg
namespace Go.Proofs.Ytgikhkjnemglbaa
end Go.Proofs.Ytgikhkjnemglbaa
