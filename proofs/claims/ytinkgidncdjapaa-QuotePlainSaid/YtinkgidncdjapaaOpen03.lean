/- Arguments that come in: two texts. -/
import Derived.Test.YtinkgidncdjapaaOpen01
import Derived.Test.YtinkgidncdjapaaOpenB
import Derived.ChangeArms
namespace Go.Proofs.Ytinkgidncdjapaa
set_option linter.unusedVariables false
open Go.ChangeShapes Go.WideShapes Go.ChangeAt Go.RowKit

theorem open_twos {H : Type} {enc : TypeId × Value → H} {W : World} {base : Nat} {sp : Nat → Bool} {held : Bool} {v : Value} {d : DataW H} {p : List MemPlace}
    (hval : Value.okWide Try.prog W .any base 33 v) (h : DataW.Trod enc Try.prog W 0 sp held 33 v d p) :
    ∃ x y : ByteArray, v = .agg #[.string x, .string y] := by
  unfold Value.okWide at hval
  rw [Try.underlying33] at hval
  obtain ⟨cs, rfl, hsz, _⟩ := hval
  rw [show Try.prog.cellsOf 33 = 2 from by kernel_rfl] at hsz
  obtain ⟨fuel, hf⟩ := h
  obtain ⟨xs, m, _, _, _, hl, hg⟩ := DataW.trod_array Try.underlying33 hf
  rw [show Try.prog.cellsOf 9 = 1 from by kernel_rfl] at hg
  obtain ⟨l⟩ := cs
  match l, hsz, xs, hl with
  | [c0, c1], _, [x0, x1], _ =>
    have g0 := hg 0 (by decide)
    have g1 := hg 1 (by decide)
    simp [Value.cells] at g0 g1
    obtain ⟨a, e0, _, _⟩ := DataW.trod_string Try.underlying9 g0
    obtain ⟨b, e1, _, _⟩ := DataW.trod_string Try.underlying9 g1
    simp at e0 e1
    exact ⟨a, b, by rw [e0, e1]⟩
end Go.Proofs.Ytinkgidncdjapaa
