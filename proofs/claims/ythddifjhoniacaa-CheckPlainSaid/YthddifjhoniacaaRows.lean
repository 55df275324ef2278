/-
  No cell of these rows narrows 'for every input' (looked for: loops, veiled, ifaces, maps, wideKeys, modest, calm, conditions, laid).
  DERIVED. THE GIVEN ROWS OF THIS SEAT. 4 by the template 'for every input the law returns true; each argument reads behind the call as it read before'; 0 by the template 'total and deterministic' (their statements: YthddifjhoniacaaTotals.lean).
  GIVEN WITH THE SEED: the statements are not yours to turn. If you find one false, say at which input.
  Laid BY PROGRAM, IN A SANDBOX (cutbox-rows.mjs): the forced cells as the released guide's own fill.sh prints them over the translation 40508ece64323a2f… (all of the seat's roots in one cut). By AI agents, Wed Nov 11 2026. No macro, syntax, notation, axiom, sorry.
-/
import Derived.Test.YthddifjhoniacaaChecked
import GoSem.Claim
import GoSem.ClaimJoined
import GoSem.ClaimMapViews
import Derived.JoinedTies
import Derived.KernelRfl
namespace Go.Proofs.Ythddifjhoniacaa
/- THE CELL 'sum', in the pinned program and in every row, IS THE sha256 OF THE DUMP (.gsa) THAT YthddifjhoniacaaProg.lean LOADS. Nothing in Lean hashes anything: it is a label: what it is worth is what the hold of that sum in a sandbox is worth. -/
noncomputable def Try.pinned : Pinned := { name := "ythddifjhoniacaa", sum := "40508ece64323a2fcef67747ef69b163c096feee4a3f0b70247fa2bc46ad8706", checked := Try.checked }
namespace Rows
def none {H : Type} : Left H := { results := [], args := [] }

/-- 'eyotlaw16.CallsTells': WHATEVER THE INPUT: true; the input reads as it did. -/
def callsTellsSpec : ChangeSpec := { name := "callsTells", fn := fun _ => fun
  | [d1, d2, d3] => { results := [.lit (.bool true)], args := [d1, d2, d3] }
  | _ => none }
def callsTellsRow : OpenClaim := { program := "ythddifjhoniacaa", sum := "40508ece64323a2fcef67747ef69b163c096feee4a3f0b70247fa2bc46ad8706", func := "eyot/eyotlaw16.CallsTells", spec := "callsTells", unfollowed := true, recurses := true, apart := false }
def CallsTellsSaid : Prop := callsTellsRow.holds Try.pinned (OpenSpec.ofChange callsTellsSpec)

/-- ITS FALSE NEIGHBOUR: 'it returns false'. Refute it at one input. -/
def callsTellsWrong : ChangeSpec := { name := "callsTells", fn := fun _ => fun
  | [d1, d2, d3] => { results := [.lit (.bool false)], args := [d1, d2, d3] }
  | _ => none }
def CallsTellsWrongFalsely : Prop := callsTellsRow.holds Try.pinned (OpenSpec.ofChange callsTellsWrong)

/-- 'eyotlaw16.CallsOrder': WHATEVER THE INPUT: true; the input reads as it did. -/
def callsOrderSpec : ChangeSpec := { name := "callsOrder", fn := fun _ => fun
  | [d1, d2] => { results := [.lit (.bool true)], args := [d1, d2] }
  | _ => none }
def callsOrderRow : OpenClaim := { program := "ythddifjhoniacaa", sum := "40508ece64323a2fcef67747ef69b163c096feee4a3f0b70247fa2bc46ad8706", func := "eyot/eyotlaw16.CallsOrder", spec := "callsOrder", unfollowed := true, recurses := true, apart := false }
def CallsOrderSaid : Prop := callsOrderRow.holds Try.pinned (OpenSpec.ofChange callsOrderSpec)

/-- ITS FALSE NEIGHBOUR: 'it returns false'. Refute it at one input. -/
def callsOrderWrong : ChangeSpec := { name := "callsOrder", fn := fun _ => fun
  | [d1, d2] => { results := [.lit (.bool false)], args := [d1, d2] }
  | _ => none }
def CallsOrderWrongFalsely : Prop := callsOrderRow.holds Try.pinned (OpenSpec.ofChange callsOrderWrong)

/-- 'eyotlaw16.CallsParts': WHATEVER THE INPUT: true; the input reads as it did. -/
def callsPartsSpec : ChangeSpec := { name := "callsParts", fn := fun _ => fun
  | [d1, d2] => { results := [.lit (.bool true)], args := [d1, d2] }
  | _ => none }
def callsPartsRow : OpenClaim := { program := "ythddifjhoniacaa", sum := "40508ece64323a2fcef67747ef69b163c096feee4a3f0b70247fa2bc46ad8706", func := "eyot/eyotlaw16.CallsParts", spec := "callsParts", unfollowed := true, recurses := true, apart := false }
def CallsPartsSaid : Prop := callsPartsRow.holds Try.pinned (OpenSpec.ofChange callsPartsSpec)

/-- ITS FALSE NEIGHBOUR: 'it returns false'. Refute it at one input. -/
def callsPartsWrong : ChangeSpec := { name := "callsParts", fn := fun _ => fun
  | [d1, d2] => { results := [.lit (.bool false)], args := [d1, d2] }
  | _ => none }
def CallsPartsWrongFalsely : Prop := callsPartsRow.holds Try.pinned (OpenSpec.ofChange callsPartsWrong)

/-- 'eyotlaw17.CheckPlain': WHATEVER THE INPUT: true; the input reads as it did. -/
def checkPlainSpec : ChangeSpec := { name := "checkPlain", fn := fun _ => fun
  | [d1, d2] => { results := [.lit (.bool true)], args := [d1, d2] }
  | _ => none }
def checkPlainRow : OpenClaim := { program := "ythddifjhoniacaa", sum := "40508ece64323a2fcef67747ef69b163c096feee4a3f0b70247fa2bc46ad8706", func := "eyot/eyotlaw17.CheckPlain", spec := "checkPlain", unfollowed := true, recurses := true, apart := false }
def CheckPlainSaid : Prop := checkPlainRow.holds Try.pinned (OpenSpec.ofChange checkPlainSpec)

/-- ITS FALSE NEIGHBOUR: 'it returns false'. Refute it at one input. -/
def checkPlainWrong : ChangeSpec := { name := "checkPlain", fn := fun _ => fun
  | [d1, d2] => { results := [.lit (.bool false)], args := [d1, d2] }
  | _ => none }
def CheckPlainWrongFalsely : Prop := checkPlainRow.holds Try.pinned (OpenSpec.ofChange checkPlainWrong)

/- THE SECOND FORM. 'bulk': how many values and letters a reading holds, each counted each time it is reached (what is shared counts as often as it is met; a slice's spare places count too). A statement '..UptoSaid' is the law's where the arguments, and the package variables that the reading takes, are together of bulk at most 1048576: NARROWER than '..Said'. Prove '..Said' where nothing that the law and all that it calls make is longer than what came in: it says more and counts as full. Else prove '..UptoSaid'. A law counts once. -/
mutual
def uptoBulk {H : Type} : DataW H → Nat
  | .lit (.string bytes) => bytes.length + 1
  | .lit _ => 1
  | .nil => 1
  | .ptr d => uptoBulk d + 1
  | .slice elems spare => uptoBulkAll elems + uptoBulkAll spare + 1
  | .agg parts => uptoBulkAll parts + 1
  | .iface _ d => uptoBulk d + 1
  | .map entries => uptoBulkEntries entries + 1
  | .held _ => 1
def uptoBulkAll {H : Type} : List (DataW H) → Nat
  | [] => 0
  | d :: r => uptoBulk d + uptoBulkAll r
def uptoBulkEntries {H : Type} : List (Lit × DataW H) → Nat
  | [] => 0
  | x :: r => uptoBulkEntry x + uptoBulkEntries r
def uptoBulkEntry {H : Type} : Lit × DataW H → Nat
  | (.string bytes, d) => bytes.length + uptoBulk d + 1
  | (_, d) => uptoBulk d + 1
 end
def uptoSmall : (H : Type) → List (DataW H) → Bool := fun _ ds => decide (uptoBulkAll ds ≤ 1048576)
def OpenSpec.upto (s : _root_.Go.ChangeSpec) : _root_.Go.OpenSpec := { _root_.Go.OpenSpec.ofChange s with cond := some uptoSmall }

/-- 'eyotlaw16.CallsTells', WHERE WHAT IT READS IS OF BULK AT MOST 1048576: true; the input reads as it did. -/
def callsTellsUptoRow : OpenClaim := { program := "ythddifjhoniacaa", sum := "40508ece64323a2fcef67747ef69b163c096feee4a3f0b70247fa2bc46ad8706", func := "eyot/eyotlaw16.CallsTells", spec := "callsTells", unfollowed := true, recurses := true, apart := false, narrowed := true }
def CallsTellsUptoSaid : Prop := callsTellsUptoRow.holds Try.pinned (OpenSpec.upto callsTellsSpec)

/-- 'eyotlaw16.CallsOrder', WHERE WHAT IT READS IS OF BULK AT MOST 1048576: true; the input reads as it did. -/
def callsOrderUptoRow : OpenClaim := { program := "ythddifjhoniacaa", sum := "40508ece64323a2fcef67747ef69b163c096feee4a3f0b70247fa2bc46ad8706", func := "eyot/eyotlaw16.CallsOrder", spec := "callsOrder", unfollowed := true, recurses := true, apart := false, narrowed := true }
def CallsOrderUptoSaid : Prop := callsOrderUptoRow.holds Try.pinned (OpenSpec.upto callsOrderSpec)

/-- 'eyotlaw16.CallsParts', WHERE WHAT IT READS IS OF BULK AT MOST 1048576: true; the input reads as it did. -/
def callsPartsUptoRow : OpenClaim := { program := "ythddifjhoniacaa", sum := "40508ece64323a2fcef67747ef69b163c096feee4a3f0b70247fa2bc46ad8706", func := "eyot/eyotlaw16.CallsParts", spec := "callsParts", unfollowed := true, recurses := true, apart := false, narrowed := true }
def CallsPartsUptoSaid : Prop := callsPartsUptoRow.holds Try.pinned (OpenSpec.upto callsPartsSpec)

/-- 'eyotlaw17.CheckPlain', WHERE WHAT IT READS IS OF BULK AT MOST 1048576: true; the input reads as it did. -/
def checkPlainUptoRow : OpenClaim := { program := "ythddifjhoniacaa", sum := "40508ece64323a2fcef67747ef69b163c096feee4a3f0b70247fa2bc46ad8706", func := "eyot/eyotlaw17.CheckPlain", spec := "checkPlain", unfollowed := true, recurses := true, apart := false, narrowed := true }
def CheckPlainUptoSaid : Prop := checkPlainUptoRow.holds Try.pinned (OpenSpec.upto checkPlainSpec)

end Rows
end Go.Proofs.Ythddifjhoniacaa
