import Derived.Test.YthkdnehgamefiaaGreatJx
namespace Go.Proofs.YthkdnehgamefiaaGreat
set_option linter.unusedVariables false
set_option maxRecDepth 1000000
open Go.RowKit Go.Sort
theorem YH (no:ByteArray) (B:List ByteArray) (x:ByteArray) (r:List ByteArray):nL no B (x :: r)=(bN x && !(x.toList == no.toList) && !(hasB B x) && nL no (B ++ [x]) r):=rfl
end Go.Proofs.YthkdnehgamefiaaGreat
