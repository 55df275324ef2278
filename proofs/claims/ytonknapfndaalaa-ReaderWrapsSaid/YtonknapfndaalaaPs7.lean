/- The expression that a text is: the document's answer, walked. -/
import Derived.Test.YtonknapfndaalaaPs0
namespace Go.Proofs.Ytonknapfndaalaa
set_option linter.unusedVariables false
set_option maxRecDepth 1000000
open Go.RowKit Go.Sort
abbrev Rp := Except (Int × Int) Ex
def psL (L : List Tok) : Rs → Rp
 | .error f => .error f
 | .ok (x, m) => if (tkA L m).kd = 0 then .ok x else .error (2, ((tkA L m).pos : Int))
/-- The expression that a text is. -/
def psO (s : ByteArray) : Rp := match allO s with
 | .error k => .error (2, (k : Int))
 | .ok L => psL L (rdO L 0)
def PsE (D : Nat) (r : Rp) (e : Ending) (w' : World) : Prop := match r with
 | .error f => e = .returned (.tuple #[exv ex0 none 0, .agg #[.int .i64 f.1, .int .i64 f.2, .int .i64 0, .int .i64 0]]) ∧ f.1 ≠ 0
 | .ok x => ∃ ko kc n, e = .returned (.tuple #[exv x ko kc, .agg #[.int .i64 0, .int .i64 0, .int .i64 0, .int .i64 0]]) ∧ HasE w' D n ko x.kids
end Go.Proofs.Ytonknapfndaalaa
