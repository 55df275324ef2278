/- What is looked ahead for, a sea, what has a label, or what stands alone, walked. -/
import Derived.Test.YtonknapfndaalaaGu
import Derived.Test.YtonknapfndaalaaGm
namespace Go.Proofs.Ytonknapfndaalaa
set_option linter.unusedVariables false
set_option maxRecDepth 1000000
open Go.RowKit Go.Sort
@[go_sem 2000] theorem ebuildL (k : Int) (t : ByteArray) (A : Option Addr) (n c : Nat) (w : World) : (Instr.build 28 #[(0, .int .i64 k), (1, .string t), (3, .slice A n c)]).run Try.prog w = .ok (.agg #[.int .i64 k, .string t, .int .u64 0, .int .u64 0, .int .u64 0, .int .u64 0, .slice A n c]) w := by kernel_rfl
end Go.Proofs.Ytonknapfndaalaa
