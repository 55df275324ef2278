/-
  No cell of these rows narrows 'for every input' (looked for: loops, veiled, ifaces, maps, wideKeys, modest, calm, conditions, laid).
  DERIVED. THE GIVEN ROWS OF THIS SEAT. 3 by the template 'for every input the law returns true; each argument reads behind the call as it read before'; 0 by the template 'total and deterministic' (their statements: YtihcmneidbjmlaaTotals.lean).
  GIVEN WITH THE SEED: the statements are not yours to turn. If you find one false, say at which input.
  Laid BY PROGRAM, IN A SANDBOX (cutbox-rows.mjs): the forced cells as the released guide's own fill.sh prints them over the translation d5152de0b7d070e3… (all of the seat's roots in one cut). By AI agents, Wed Nov 11 2026. No macro, syntax, notation, axiom, sorry.
-/
import Derived.Test.YtihcmneidbjmlaaChecked
import GoSem.Claim
import GoSem.ClaimJoined
import GoSem.ClaimMapViews
import Derived.JoinedTies
import Derived.KernelRfl
namespace Go.Proofs.Ytihcmneidbjmlaa
/- THE CELL 'sum', in the pinned program and in every row, IS THE sha256 OF THE DUMP (.gsa) THAT YtihcmneidbjmlaaProg.lean LOADS. Nothing in Lean hashes anything: it is a label: what it is worth is what the hold of that sum in a sandbox is worth. -/
noncomputable def Try.pinned : Pinned := { name := "ytihcmneidbjmlaa", sum := "d5152de0b7d070e39a932e89e92e91346c7166fe044e33ba5a0bfd7ae43e7411", checked := Try.checked }
namespace Rows
def none {H : Type} : Left H := { results := [], args := [] }

/-- 'eyotlaw10.LookupTells': WHATEVER THE INPUT: true; the input reads as it did. -/
def lookupTellsSpec : ChangeSpec := { name := "lookupTells", fn := fun _ => fun
  | [d1, d2, d3] => { results := [.lit (.bool true)], args := [d1, d2, d3] }
  | _ => none }
def lookupTellsRow : OpenClaim := { program := "ytihcmneidbjmlaa", sum := "d5152de0b7d070e39a932e89e92e91346c7166fe044e33ba5a0bfd7ae43e7411", func := "eyot/eyotlaw10.LookupTells", spec := "lookupTells", inPlace := ["internal/bytealg.IndexByteString", "internal/bytealg.IndexString"], unfollowed := true, recurses := true, named := ["internal/bytealg.MaxLen"], apart := false }
def LookupTellsSaid : Prop := lookupTellsRow.holds Try.pinned (OpenSpec.ofChange lookupTellsSpec)

/-- ITS FALSE NEIGHBOUR: 'it returns false'. Refute it at one input. -/
def lookupTellsWrong : ChangeSpec := { name := "lookupTells", fn := fun _ => fun
  | [d1, d2, d3] => { results := [.lit (.bool false)], args := [d1, d2, d3] }
  | _ => none }
def LookupTellsWrongFalsely : Prop := lookupTellsRow.holds Try.pinned (OpenSpec.ofChange lookupTellsWrong)

/-- 'eyotlaw10.LookupOwn': WHATEVER THE INPUT: true; the input reads as it did. -/
def lookupOwnSpec : ChangeSpec := { name := "lookupOwn", fn := fun _ => fun
  | [d] => { results := [.lit (.bool true)], args := [d] }
  | _ => none }
def lookupOwnRow : OpenClaim := { program := "ytihcmneidbjmlaa", sum := "d5152de0b7d070e39a932e89e92e91346c7166fe044e33ba5a0bfd7ae43e7411", func := "eyot/eyotlaw10.LookupOwn", spec := "lookupOwn", inPlace := ["internal/bytealg.IndexByteString", "internal/bytealg.IndexString"], unfollowed := true, recurses := true, named := ["internal/bytealg.MaxLen"], apart := false }
def LookupOwnSaid : Prop := lookupOwnRow.holds Try.pinned (OpenSpec.ofChange lookupOwnSpec)

/-- ITS FALSE NEIGHBOUR: 'it returns false'. Refute it at one input. -/
def lookupOwnWrong : ChangeSpec := { name := "lookupOwn", fn := fun _ => fun
  | [d] => { results := [.lit (.bool false)], args := [d] }
  | _ => none }
def LookupOwnWrongFalsely : Prop := lookupOwnRow.holds Try.pinned (OpenSpec.ofChange lookupOwnWrong)

/-- 'eyotlaw10.LookupFirst': WHATEVER THE INPUT: true; the input reads as it did. -/
def lookupFirstSpec : ChangeSpec := { name := "lookupFirst", fn := fun _ => fun
  | [d1, d2, d3] => { results := [.lit (.bool true)], args := [d1, d2, d3] }
  | _ => none }
def lookupFirstRow : OpenClaim := { program := "ytihcmneidbjmlaa", sum := "d5152de0b7d070e39a932e89e92e91346c7166fe044e33ba5a0bfd7ae43e7411", func := "eyot/eyotlaw10.LookupFirst", spec := "lookupFirst", inPlace := ["internal/bytealg.IndexByteString", "internal/bytealg.IndexString"], unfollowed := true, recurses := true, named := ["internal/bytealg.MaxLen"], apart := false }
def LookupFirstSaid : Prop := lookupFirstRow.holds Try.pinned (OpenSpec.ofChange lookupFirstSpec)

/-- ITS FALSE NEIGHBOUR: 'it returns false'. Refute it at one input. -/
def lookupFirstWrong : ChangeSpec := { name := "lookupFirst", fn := fun _ => fun
  | [d1, d2, d3] => { results := [.lit (.bool false)], args := [d1, d2, d3] }
  | _ => none }
def LookupFirstWrongFalsely : Prop := lookupFirstRow.holds Try.pinned (OpenSpec.ofChange lookupFirstWrong)

/- THE SECOND FORM. 'bulk': how many values and letters a reading holds, each counted each time it is reached (what is shared counts as often as it is met; a slice's spare places count too). A statement '..UptoSaid' is the law's where the arguments, and the package variables that the reading takes, are together of bulk at most 1048576: NARROWER than '..Said'. Prove '..Said' where nothing that the law and all that it calls make is longer than what came in: it says more and counts as full. Else prove '..UptoSaid'. A law counts once. -/
mutual
def uptoBulk {H : Type} : DataW H → Nat
  | .lit (.string bytes) => bytes.length + 1
  | .lit _ => 1
  | .nil => 1
  | .ptr d => uptoBulk d + 1
  | .slice elems spare => uptoBulkAll elems + uptoBulkAll spare + 1
  | .agg parts => uptoBulkAll parts + 1
  | .iface _ d => uptoBulk d + 1
  | .map entries => uptoBulkEntries entries + 1
  | .held _ => 1
def uptoBulkAll {H : Type} : List (DataW H) → Nat
  | [] => 0
  | d :: r => uptoBulk d + uptoBulkAll r
def uptoBulkEntries {H : Type} : List (Lit × DataW H) → Nat
  | [] => 0
  | x :: r => uptoBulkEntry x + uptoBulkEntries r
def uptoBulkEntry {H : Type} : Lit × DataW H → Nat
  | (.string bytes, d) => bytes.length + uptoBulk d + 1
  | (_, d) => uptoBulk d + 1
 end
def uptoSmall : (H : Type) → List (DataW H) → Bool := fun _ ds => decide (uptoBulkAll ds ≤ 1048576)
def OpenSpec.upto (s : _root_.Go.ChangeSpec) : _root_.Go.OpenSpec := { _root_.Go.OpenSpec.ofChange s with cond := some uptoSmall }

/-- 'eyotlaw10.LookupTells', WHERE WHAT IT READS IS OF BULK AT MOST 1048576: true; the input reads as it did. -/
def lookupTellsUptoRow : OpenClaim := { program := "ytihcmneidbjmlaa", sum := "d5152de0b7d070e39a932e89e92e91346c7166fe044e33ba5a0bfd7ae43e7411", func := "eyot/eyotlaw10.LookupTells", spec := "lookupTells", inPlace := ["internal/bytealg.IndexByteString", "internal/bytealg.IndexString"], unfollowed := true, recurses := true, named := ["internal/bytealg.MaxLen"], apart := false, narrowed := true }
def LookupTellsUptoSaid : Prop := lookupTellsUptoRow.holds Try.pinned (OpenSpec.upto lookupTellsSpec)

/-- 'eyotlaw10.LookupOwn', WHERE WHAT IT READS IS OF BULK AT MOST 1048576: true; the input reads as it did. -/
def lookupOwnUptoRow : OpenClaim := { program := "ytihcmneidbjmlaa", sum := "d5152de0b7d070e39a932e89e92e91346c7166fe044e33ba5a0bfd7ae43e7411", func := "eyot/eyotlaw10.LookupOwn", spec := "lookupOwn", inPlace := ["internal/bytealg.IndexByteString", "internal/bytealg.IndexString"], unfollowed := true, recurses := true, named := ["internal/bytealg.MaxLen"], apart := false, narrowed := true }
def LookupOwnUptoSaid : Prop := lookupOwnUptoRow.holds Try.pinned (OpenSpec.upto lookupOwnSpec)

/-- 'eyotlaw10.LookupFirst', WHERE WHAT IT READS IS OF BULK AT MOST 1048576: true; the input reads as it did. -/
def lookupFirstUptoRow : OpenClaim := { program := "ytihcmneidbjmlaa", sum := "d5152de0b7d070e39a932e89e92e91346c7166fe044e33ba5a0bfd7ae43e7411", func := "eyot/eyotlaw10.LookupFirst", spec := "lookupFirst", inPlace := ["internal/bytealg.IndexByteString", "internal/bytealg.IndexString"], unfollowed := true, recurses := true, named := ["internal/bytealg.MaxLen"], apart := false, narrowed := true }
def LookupFirstUptoSaid : Prop := lookupFirstUptoRow.holds Try.pinned (OpenSpec.upto lookupFirstSpec)

end Rows
end Go.Proofs.Ytihcmneidbjmlaa
