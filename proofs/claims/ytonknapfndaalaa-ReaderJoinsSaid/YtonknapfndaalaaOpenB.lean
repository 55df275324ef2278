/- Arguments that come in: ints, strings. -/
import Derived.Test.YtonknapfndaalaaRows
import Derived.ProofKit
import Derived.OpenShut
namespace Go.Proofs.Ytonknapfndaalaa
set_option maxRecDepth 1000000
set_option linter.unusedVariables false
set_option maxRecDepth 1000000
open Go.ChangeShapes Go.WideShapes Go.ChangeAt Go.RowKit
section
variable {H : Type} {enc : TypeId × Value → H} {W : World} {base : Nat} {sp : Nat → Bool} {held : Bool} {v : Value} {d : DataW H} {p : List MemPlace}
theorem open_text {t : TypeId} (ht : Try.prog.underlying t = some .string) (hval : Value.okWide Try.prog W .any base t v) (h : DataW.Trod enc Try.prog W 0 sp held t v d p) :
  ∃ s : ByteArray, v = .string s ∧ s.size ≤ maxLen := by
 obtain ⟨s, rfl, _, _, hs⟩ := Go.ChangeMaps.open_string ht hval h
 exact ⟨s, rfl, hs⟩
end
end Go.Proofs.Ytonknapfndaalaa
