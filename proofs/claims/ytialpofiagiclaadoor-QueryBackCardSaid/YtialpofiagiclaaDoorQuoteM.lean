/- A byte of a class: the walks of the program's single and the reference's byteAt. -/
import Derived.Test.YtialpofiagiclaaDoorQuoteL
namespace Go.Proofs.YtialpofiagiclaaDoor
set_option linter.unusedVariables false
set_option maxRecDepth 1000000
open Go.RowKit

/-- The byte of a class that stands at a place. -/
def sglO (s : ByteArray) (k : Nat) : Option (Int × Nat) :=
  match readO s k spC with
  | none => none
  | some (u, m) => if u.size = 1 then some (byt u 0, m) else none
def sglT : Option (Int × Nat) → Value
  | none => .tuple #[.int .u8 0, .int .i64 0, .bool false]
  | some (c, m) => .tuple #[.int .u8 c, .int .i64 (m : Int), .bool true]
theorem sglO_none {s : ByteArray} {k : Nat} (h : readO s k spC = none) : sglO s k = none := by unfold sglO; rw [h]
theorem sglO_some {s : ByteArray} {k m : Nat} {u : ByteArray} (h : readO s k spC = some (u, m)) : sglO s k = if u.size = 1 then some (byt u 0, m) else none := by unfold sglO; rw [h]
theorem sglO_bd {s : ByteArray} {k m : Nat} {c : Int} (h : sglO s k = some (c, m)) : k < s.size ∧ k < m ∧ m ≤ k + 10 ∧ 0 ≤ c ∧ c ≤ 255 := by
  cases hq : readO s k spC with
  | none => rw [sglO_none hq] at h; cases h
  | some p =>
    obtain ⟨u, m'⟩ := p
    rw [sglO_some hq] at h
    split at h
    · injection h with h; injection h with h1 h2
      subst h1 h2
      have := readO_bd hq
      exact ⟨this.1, this.2.1, this.2.2.1, byt_lt u 0⟩
    · cases h

end Go.Proofs.YtialpofiagiclaaDoor
