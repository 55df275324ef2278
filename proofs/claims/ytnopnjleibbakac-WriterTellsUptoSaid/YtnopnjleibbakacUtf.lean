/- The walks of layer 2's functions. -/
import Derived.Test.YtnopnjleibbakacChecked
import Derived.Test.YtnopnjleibbakacUtfMath
import Derived.Test.YtnopnjleibbakacQuiet
import Derived.WalkLawsBesides
import Derived.Handy
import Derived.KernelRfl
namespace Go.Proofs.Ytnopnjleibbakac
set_option linter.unusedVariables false
open Go.RowKit Go.Sort Go.PlainAid

/-- Bytes that the call has laid itself, as a string. -/
theorem conv_lit (xs : List Int) (w : World) : (convert 37 9 (.slice (some ⟨w.heap.size, 0, none⟩) xs.length xs.length)).run Try.prog (w.alloc (.cells (xs.map (Value.int .u8)).toArray 5)) = .ok (.string (strOfNums xs)) (w.alloc (.cells (xs.map (Value.int .u8)).toArray 5)) := by
  refine run_convert_bytes_arg _ 37 5 Try.underlying37 Try.underlying5 w.heap.size 0 xs.length xs.length xs rfl (fun i hi => ?_) 9 Try.underlying9
  rw [Nat.zero_add, (Own.fresh w 5 (xs.map (Value.int .u8))).cell i]
  simp [List.getElem?_eq_getElem hi]


theorem ret_tup {a b : ByteArray} {x : Bool} (h : a = b) : Ending.returned (.tuple #[.string a, .bool x]) = .returned (.tuple #[.string b, .bool x]) := by rw [h]

end Go.Proofs.Ytnopnjleibbakac
