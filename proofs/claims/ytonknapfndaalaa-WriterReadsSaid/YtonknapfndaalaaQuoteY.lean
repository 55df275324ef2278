/- The set that stands at a place: the walk of the reference's ReadClass. -/
import Derived.Test.YtonknapfndaalaaGq
namespace Go.Proofs.Ytonknapfndaalaa
set_option linter.unusedVariables false
set_option maxRecDepth 1000000
open Go.RowKit
/-- Is it the empty set? -/
def isZ (a b c d : Nat) : Bool := (a : Int) == 0 && (b : Int) == 0 && (c : Int) == 0 && (d : Int) == 0
@[go_sem 2000] theorem eqz (a b c d : Nat) (w : World) :
  (Op.equalIn 10000 25 (.agg #[.int .u64 (a : Int), .int .u64 (b : Int), .int .u64 (c : Int), .int .u64 (d : Int)]) (.agg #[.int .u64 0, .int .u64 0, .int .u64 0, .int .u64 0])).run Try.prog w = .ok (isZ a b c d) w := eq4 a b c d 0 0 0 0 w
end Go.Proofs.Ytonknapfndaalaa
