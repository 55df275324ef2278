/- Arguments that come in: ints, strings. -/
import Derived.Test.YtialpofiagiclaaDoorRows
import Derived.ProofKit
import Derived.OpenShut
namespace Go.Proofs.YtialpofiagiclaaDoor
set_option maxRecDepth 1000000
set_option linter.unusedVariables false
set_option maxRecDepth 1000000
open Go.ChangeShapes Go.WideShapes Go.ChangeAt Go.RowKit

section
variable {H : Type} {enc : TypeId × Value → H} {W : World} {base : Nat} {sp : Nat → Bool} {held : Bool} {v : Value} {d : DataW H} {p : List MemPlace}
theorem open_num {t : TypeId} (ht : Tryd.prog.underlying t = some (.int .i64)) (hval : Value.okWide Tryd.prog W .any base t v) (h : DataW.Trod enc Tryd.prog W 0 sp held t v d p) :
    ∃ n : Int, v = .int .i64 n ∧ -9223372036854775808 ≤ n ∧ n ≤ 9223372036854775807 := by
  obtain ⟨x, rfl, _, _, wx⟩ := open_int ht hval h
  exact ⟨x, rfl, bounds_i64 wx⟩
theorem open_u32 {t : TypeId} (ht : Tryd.prog.underlying t = some (.int .u32)) (hval : Value.okWide Tryd.prog W .any base t v) (h : DataW.Trod enc Tryd.prog W 0 sp held t v d p) :
    ∃ n : Nat, v = .int .u32 (n : Int) ∧ (n : Int) < 4294967296 := by
  obtain ⟨x, rfl, _, _, wx⟩ := open_int ht hval h
  have hb := bounds_u32 wx
  exact ⟨x.toNat, by congr 1; omega, by omega⟩
theorem open_u16 {t : TypeId} (ht : Tryd.prog.underlying t = some (.int .u16)) (hval : Value.okWide Tryd.prog W .any base t v) (h : DataW.Trod enc Tryd.prog W 0 sp held t v d p) :
    ∃ n : Nat, v = .int .u16 (n : Int) ∧ (n : Int) < 65536 := by
  obtain ⟨x, rfl, _, _, wx⟩ := open_int ht hval h
  have hb := bounds_u16 wx
  exact ⟨x.toNat, by congr 1; omega, by omega⟩
theorem open_u8 {t : TypeId} (ht : Tryd.prog.underlying t = some (.int .u8)) (hval : Value.okWide Tryd.prog W .any base t v) (h : DataW.Trod enc Tryd.prog W 0 sp held t v d p) :
    ∃ n : Nat, v = .int .u8 (n : Int) ∧ n < 256 := by
  obtain ⟨x, rfl, _, _, wx⟩ := open_int ht hval h
  have hb := bounds_u8 wx
  exact ⟨x.toNat, by congr 1; omega, by omega⟩
theorem open_text {t : TypeId} (ht : Tryd.prog.underlying t = some .string) (hval : Value.okWide Tryd.prog W .any base t v) (h : DataW.Trod enc Tryd.prog W 0 sp held t v d p) :
    ∃ s : ByteArray, v = .string s ∧ s.size ≤ maxLen := by
  obtain ⟨s, rfl, _, _, hs⟩ := Go.ChangeMaps.open_string ht hval h
  exact ⟨s, rfl, hs⟩
end
end Go.Proofs.YtialpofiagiclaaDoor
