/- Arguments that come in: ints, strings. -/
import Derived.Test.YtonknapfndaalaaRows
import Derived.ProofKit
import Derived.OpenShut
namespace Go.Proofs.Ytonknapfndaalaa
set_option maxRecDepth 1000000
set_option linter.unusedVariables false
set_option maxRecDepth 1000000
open Go.ChangeShapes Go.WideShapes Go.ChangeAt Go.RowKit
section
variable {H : Type} {enc : TypeId × Value → H} {W : World} {base : Nat} {sp : Nat → Bool} {held : Bool} {v : Value} {d : DataW H} {p : List MemPlace}
end
end Go.Proofs.Ytonknapfndaalaa
