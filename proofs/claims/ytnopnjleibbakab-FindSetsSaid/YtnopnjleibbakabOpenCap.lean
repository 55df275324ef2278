/- A query that comes in has room for its paths. -/
import Derived.Test.YtnopnjleibbakabOpenNodes
import Derived.Test.YtnopnjleibbakabGk
import Derived.Test.YtnopnjleibbakabChecked
import Derived.ProofKit
import Derived.OpenShut
import Derived.KernelRfl
import Derived.Deep.Slices
namespace Go.Proofs.Ytnopnjleibbakab
set_option linter.unusedVariables false
open Go.ChangeShapes Go.WideShapes Go.ChangeAt Go.RowKit Go.Deep

section
variable {H : Type} {enc : TypeId × Value → H} {W : World} {sp : Nat → Bool} {held : Bool}
theorem open_cap {d : DataW H} {pl : List MemPlace} {qo : Option Addr} {m qc : Nat} (h : DataW.Trod enc Try.prog W 0 sp held 25 (.agg #[.slice qo m qc]) d pl) : m ≤ qc := by
  obtain ⟨fuel, hf⟩ := h
  obtain ⟨f0, hu, hone, t0⟩ := fieldsQ
  obtain ⟨ys, n, hn, _, hcl, hyl, hfd⟩ := DataW.trod_struct hu hf
  have g0 := hfd 0 f0 rfl
  rw [(hone_of hone 0 f0 rfl).1, (hone_of hone 0 f0 rfl).2, t0] at g0
  simp [Value.cells] at hcl g0
  match ys, hyl with
  | [y0], _ =>
    simp at g0
    rcases DataW.trod_slice Try.underlying23 g0 with ⟨hcs, _⟩ | ⟨a, len, cap, elems, rest, n, hn, hcs, _, hb, hl, _⟩
    · simp at hcs; omega
    · simp at hcs; omega
end
end Go.Proofs.Ytnopnjleibbakab
