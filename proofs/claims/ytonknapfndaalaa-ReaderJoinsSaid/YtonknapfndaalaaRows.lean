/-
  NARROWER THAN 'FOR EVERY INPUT', by the rows' own cells (each row's printed sentence says how): WriterBack: loops · WriterApart: loops · WriterReads: loops.
  DERIVED. THE GIVEN ROWS OF THIS SEAT. 5 by the template 'for every input the law returns true; each argument reads behind the call as it read before'; 0 by the template 'total and deterministic' (their statements: YtonknapfndaalaaTotals.lean).
  GIVEN WITH THE SEED: the statements are not yours to turn. If you find one false, say at which input.
  Laid BY PROGRAM, IN A SANDBOX (cutbox-rows.mjs): the forced cells as the released guide's own fill.sh prints them over the translation 6cb372048a07138c… (all of the seat's roots in one cut). By AI agents, Wed Nov 11 2026. No macro, syntax, notation, axiom, sorry.
-/
import Derived.Test.YtonknapfndaalaaChecked
import GoSem.Claim
import GoSem.ClaimJoined
import GoSem.ClaimMapViews
import Derived.JoinedTies
import Derived.KernelRfl
namespace Go.Proofs.Ytonknapfndaalaa
/- THE CELL 'sum', in the pinned program and in every row, IS THE sha256 OF THE DUMP (.gsa) THAT YtonknapfndaalaaProg.lean LOADS. Nothing in Lean hashes anything: it is a label: what it is worth is what the hold of that sum in a sandbox is worth. -/
noncomputable def Try.pinned : Pinned := { name := "ytonknapfndaalaa", sum := "6cb372048a07138c16aff470082a4fe81de75d957680f6b842ff9c44e59626f8", checked := Try.checked }
namespace Rows
def none {H : Type} : Left H := { results := [], args := [] }

/-- 'eyotlaw07.ReaderWraps': WHATEVER THE INPUT: true; the input reads as it did. -/
def readerWrapsSpec : ChangeSpec := { name := "readerWraps", fn := fun _ => fun
  | [d] => { results := [.lit (.bool true)], args := [d] }
  | _ => none }
def readerWrapsRow : OpenClaim := { program := "ytonknapfndaalaa", sum := "6cb372048a07138c16aff470082a4fe81de75d957680f6b842ff9c44e59626f8", func := "eyot/eyotlaw07.ReaderWraps", spec := "readerWraps", inPlace := ["internal/bytealg.IndexByteString"], recurses := true, apart := false }
def ReaderWrapsSaid : Prop := readerWrapsRow.holds Try.pinned (OpenSpec.ofChange readerWrapsSpec)

/-- ITS FALSE NEIGHBOUR: 'it returns false'. Refute it at one input. -/
def readerWrapsWrong : ChangeSpec := { name := "readerWraps", fn := fun _ => fun
  | [d] => { results := [.lit (.bool false)], args := [d] }
  | _ => none }
def ReaderWrapsWrongFalsely : Prop := readerWrapsRow.holds Try.pinned (OpenSpec.ofChange readerWrapsWrong)

/-- 'eyotlaw07.ReaderJoins': WHATEVER THE INPUT: true; the input reads as it did. -/
def readerJoinsSpec : ChangeSpec := { name := "readerJoins", fn := fun _ => fun
  | [d1, d2] => { results := [.lit (.bool true)], args := [d1, d2] }
  | _ => none }
def readerJoinsRow : OpenClaim := { program := "ytonknapfndaalaa", sum := "6cb372048a07138c16aff470082a4fe81de75d957680f6b842ff9c44e59626f8", func := "eyot/eyotlaw07.ReaderJoins", spec := "readerJoins", inPlace := ["internal/bytealg.IndexByteString"], recurses := true, apart := false }
def ReaderJoinsSaid : Prop := readerJoinsRow.holds Try.pinned (OpenSpec.ofChange readerJoinsSpec)

/-- ITS FALSE NEIGHBOUR: 'it returns false'. Refute it at one input. -/
def readerJoinsWrong : ChangeSpec := { name := "readerJoins", fn := fun _ => fun
  | [d1, d2] => { results := [.lit (.bool false)], args := [d1, d2] }
  | _ => none }
def ReaderJoinsWrongFalsely : Prop := readerJoinsRow.holds Try.pinned (OpenSpec.ofChange readerJoinsWrong)

/-- 'eyotlaw08.WriterBack': WHATEVER THE INPUT: true; the input reads as it did. -/
def writerBackSpec : ChangeSpec := { name := "writerBack", fn := fun _ => fun
  | [d1, d2] => { results := [.lit (.bool true)], args := [d1, d2] }
  | _ => none }
def writerBackRow : OpenClaim := { program := "ytonknapfndaalaa", sum := "6cb372048a07138c16aff470082a4fe81de75d957680f6b842ff9c44e59626f8", func := "eyot/eyotlaw08.WriterBack", spec := "writerBack", inPlace := ["internal/abi.NoEscape", "internal/bytealg.IndexByteString", "internal/bytealg.MakeNoZero"], recurses := true, loops := true, apart := false }
def WriterBackSaid : Prop := writerBackRow.holds Try.pinned (OpenSpec.ofChange writerBackSpec)

/-- ITS FALSE NEIGHBOUR: 'it returns false'. Refute it at one input. -/
def writerBackWrong : ChangeSpec := { name := "writerBack", fn := fun _ => fun
  | [d1, d2] => { results := [.lit (.bool false)], args := [d1, d2] }
  | _ => none }
def WriterBackWrongFalsely : Prop := writerBackRow.holds Try.pinned (OpenSpec.ofChange writerBackWrong)

/-- 'eyotlaw08.WriterApart': WHATEVER THE INPUT: true; the input reads as it did. -/
def writerApartSpec : ChangeSpec := { name := "writerApart", fn := fun _ => fun
  | [d1, d2] => { results := [.lit (.bool true)], args := [d1, d2] }
  | _ => none }
def writerApartRow : OpenClaim := { program := "ytonknapfndaalaa", sum := "6cb372048a07138c16aff470082a4fe81de75d957680f6b842ff9c44e59626f8", func := "eyot/eyotlaw08.WriterApart", spec := "writerApart", inPlace := ["internal/abi.NoEscape", "internal/bytealg.IndexByteString", "internal/bytealg.MakeNoZero"], recurses := true, loops := true, apart := false }
def WriterApartSaid : Prop := writerApartRow.holds Try.pinned (OpenSpec.ofChange writerApartSpec)

/-- ITS FALSE NEIGHBOUR: 'it returns false'. Refute it at one input. -/
def writerApartWrong : ChangeSpec := { name := "writerApart", fn := fun _ => fun
  | [d1, d2] => { results := [.lit (.bool false)], args := [d1, d2] }
  | _ => none }
def WriterApartWrongFalsely : Prop := writerApartRow.holds Try.pinned (OpenSpec.ofChange writerApartWrong)

/-- 'eyotlaw08.WriterReads': WHATEVER THE INPUT: true; the input reads as it did. -/
def writerReadsSpec : ChangeSpec := { name := "writerReads", fn := fun _ => fun
  | [d] => { results := [.lit (.bool true)], args := [d] }
  | _ => none }
def writerReadsRow : OpenClaim := { program := "ytonknapfndaalaa", sum := "6cb372048a07138c16aff470082a4fe81de75d957680f6b842ff9c44e59626f8", func := "eyot/eyotlaw08.WriterReads", spec := "writerReads", inPlace := ["internal/abi.NoEscape", "internal/bytealg.IndexByteString", "internal/bytealg.MakeNoZero"], recurses := true, loops := true, apart := false }
def WriterReadsSaid : Prop := writerReadsRow.holds Try.pinned (OpenSpec.ofChange writerReadsSpec)

/-- ITS FALSE NEIGHBOUR: 'it returns false'. Refute it at one input. -/
def writerReadsWrong : ChangeSpec := { name := "writerReads", fn := fun _ => fun
  | [d] => { results := [.lit (.bool false)], args := [d] }
  | _ => none }
def WriterReadsWrongFalsely : Prop := writerReadsRow.holds Try.pinned (OpenSpec.ofChange writerReadsWrong)

/- THE SECOND FORM. 'bulk': how many values and letters a reading holds, each counted each time it is reached (what is shared counts as often as it is met; a slice's spare places count too). A statement '..UptoSaid' is the law's where the arguments, and the package variables that the reading takes, are together of bulk at most 1048576: NARROWER than '..Said'. Prove '..Said' where nothing that the law and all that it calls make is longer than what came in: it says more and counts as full. Else prove '..UptoSaid'. A law counts once. -/
mutual
def uptoBulk {H : Type} : DataW H → Nat
  | .lit (.string bytes) => bytes.length + 1
  | .lit _ => 1
  | .nil => 1
  | .ptr d => uptoBulk d + 1
  | .slice elems spare => uptoBulkAll elems + uptoBulkAll spare + 1
  | .agg parts => uptoBulkAll parts + 1
  | .iface _ d => uptoBulk d + 1
  | .map entries => uptoBulkEntries entries + 1
  | .held _ => 1
def uptoBulkAll {H : Type} : List (DataW H) → Nat
  | [] => 0
  | d :: r => uptoBulk d + uptoBulkAll r
def uptoBulkEntries {H : Type} : List (Lit × DataW H) → Nat
  | [] => 0
  | x :: r => uptoBulkEntry x + uptoBulkEntries r
def uptoBulkEntry {H : Type} : Lit × DataW H → Nat
  | (.string bytes, d) => bytes.length + uptoBulk d + 1
  | (_, d) => uptoBulk d + 1
 end
def uptoSmall : (H : Type) → List (DataW H) → Bool := fun _ ds => decide (uptoBulkAll ds ≤ 1048576)
def OpenSpec.upto (s : _root_.Go.ChangeSpec) : _root_.Go.OpenSpec := { _root_.Go.OpenSpec.ofChange s with cond := some uptoSmall }

/-- 'eyotlaw07.ReaderWraps', WHERE WHAT IT READS IS OF BULK AT MOST 1048576: true; the input reads as it did. -/
def readerWrapsUptoRow : OpenClaim := { program := "ytonknapfndaalaa", sum := "6cb372048a07138c16aff470082a4fe81de75d957680f6b842ff9c44e59626f8", func := "eyot/eyotlaw07.ReaderWraps", spec := "readerWraps", inPlace := ["internal/bytealg.IndexByteString"], recurses := true, apart := false, narrowed := true }
def ReaderWrapsUptoSaid : Prop := readerWrapsUptoRow.holds Try.pinned (OpenSpec.upto readerWrapsSpec)

/-- 'eyotlaw07.ReaderJoins', WHERE WHAT IT READS IS OF BULK AT MOST 1048576: true; the input reads as it did. -/
def readerJoinsUptoRow : OpenClaim := { program := "ytonknapfndaalaa", sum := "6cb372048a07138c16aff470082a4fe81de75d957680f6b842ff9c44e59626f8", func := "eyot/eyotlaw07.ReaderJoins", spec := "readerJoins", inPlace := ["internal/bytealg.IndexByteString"], recurses := true, apart := false, narrowed := true }
def ReaderJoinsUptoSaid : Prop := readerJoinsUptoRow.holds Try.pinned (OpenSpec.upto readerJoinsSpec)

/-- 'eyotlaw08.WriterBack', WHERE WHAT IT READS IS OF BULK AT MOST 1048576: true; the input reads as it did. -/
def writerBackUptoRow : OpenClaim := { program := "ytonknapfndaalaa", sum := "6cb372048a07138c16aff470082a4fe81de75d957680f6b842ff9c44e59626f8", func := "eyot/eyotlaw08.WriterBack", spec := "writerBack", inPlace := ["internal/abi.NoEscape", "internal/bytealg.IndexByteString", "internal/bytealg.MakeNoZero"], recurses := true, loops := true, apart := false, narrowed := true }
def WriterBackUptoSaid : Prop := writerBackUptoRow.holds Try.pinned (OpenSpec.upto writerBackSpec)

/-- 'eyotlaw08.WriterApart', WHERE WHAT IT READS IS OF BULK AT MOST 1048576: true; the input reads as it did. -/
def writerApartUptoRow : OpenClaim := { program := "ytonknapfndaalaa", sum := "6cb372048a07138c16aff470082a4fe81de75d957680f6b842ff9c44e59626f8", func := "eyot/eyotlaw08.WriterApart", spec := "writerApart", inPlace := ["internal/abi.NoEscape", "internal/bytealg.IndexByteString", "internal/bytealg.MakeNoZero"], recurses := true, loops := true, apart := false, narrowed := true }
def WriterApartUptoSaid : Prop := writerApartUptoRow.holds Try.pinned (OpenSpec.upto writerApartSpec)

/-- 'eyotlaw08.WriterReads', WHERE WHAT IT READS IS OF BULK AT MOST 1048576: true; the input reads as it did. -/
def writerReadsUptoRow : OpenClaim := { program := "ytonknapfndaalaa", sum := "6cb372048a07138c16aff470082a4fe81de75d957680f6b842ff9c44e59626f8", func := "eyot/eyotlaw08.WriterReads", spec := "writerReads", inPlace := ["internal/abi.NoEscape", "internal/bytealg.IndexByteString", "internal/bytealg.MakeNoZero"], recurses := true, loops := true, apart := false, narrowed := true }
def WriterReadsUptoSaid : Prop := writerReadsUptoRow.holds Try.pinned (OpenSpec.upto writerReadsSpec)

end Rows
end Go.Proofs.Ytonknapfndaalaa
