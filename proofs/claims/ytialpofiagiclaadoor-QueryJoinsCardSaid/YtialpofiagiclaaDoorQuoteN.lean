/- A row of a class: the walk of the program's row. -/
import Derived.Test.YtialpofiagiclaaDoorQuoteM
import Derived.Test.YtialpofiagiclaaDoorAlphaR
namespace Go.Proofs.YtialpofiagiclaaDoor
set_option linter.unusedVariables false
set_option maxRecDepth 1000000
open Go.RowKit

/-- The row of a class that stands at a place: its first byte, its last, and the place behind it. -/
def rowO (s : ByteArray) (k : Nat) : Option ((Nat × Nat) × Nat) :=
  match sglO s k with
  | none => none
  | some (lo, m) =>
    if standB s (m : Int) 45 = true then
      match sglO s (m + 1) with
      | none => none
      | some (hi, m') => if hi < lo then none else some ((lo.toNat, hi.toNat), m')
    else some ((lo.toNat, lo.toNat), m)
def rowT : Option ((Nat × Nat) × Nat) → Value
  | none => .tuple #[.agg #[.int .u64 0, .int .u64 0, .int .u64 0, .int .u64 0], .int .i64 0, .bool false]
  | some ((lo, hi), m) => .tuple #[.agg #[.int .u64 (rowW 0 lo (hi + 1) : Int), .int .u64 (rowW 1 lo (hi + 1) : Int), .int .u64 (rowW 2 lo (hi + 1) : Int), .int .u64 (rowW 3 lo (hi + 1) : Int)], .int .i64 (m : Int), .bool true]
theorem rowO_none {s : ByteArray} {k : Nat} (h : sglO s k = none) : rowO s k = none := by unfold rowO; rw [h]
theorem rowO_one {s : ByteArray} {k m : Nat} {lo : Int} (h : sglO s k = some (lo, m)) (hd : standB s (m : Int) 45 = false) : rowO s k = some ((lo.toNat, lo.toNat), m) := by
  unfold rowO; rw [h]; show (if _ then _ else _) = _; rw [if_neg (by rw [hd]; decide)]
theorem rowO_two {s : ByteArray} {k m : Nat} {lo : Int} (h : sglO s k = some (lo, m)) (hd : standB s (m : Int) 45 = true) : rowO s k = match sglO s (m + 1) with
      | none => none
      | some (hi, m') => if hi < lo then none else some ((lo.toNat, hi.toNat), m') := by
  unfold rowO; rw [h]; show (if _ then _ else _) = _; rw [if_pos hd]

end Go.Proofs.YtialpofiagiclaaDoor
