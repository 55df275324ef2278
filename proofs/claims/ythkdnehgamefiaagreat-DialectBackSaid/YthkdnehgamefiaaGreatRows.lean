/-
  NARROWER THAN 'FOR EVERY INPUT', by the rows' own cells (each row's printed sentence says how): DialectRules: loops · DialectBack: loops.
  DERIVED. THE GIVEN ROWS OF THIS SEAT. 3 by the template 'for every input the law returns true; each argument reads behind the call as it read before'; 0 by the template 'total and deterministic' (their statements: YthkdnehgamefiaaGreatTotals.lean).
  GIVEN WITH THE SEED: the statements are not yours to turn. If you find one false, say at which input.
  Laid BY PROGRAM, IN A SANDBOX (cutbox-rows.mjs): the forced cells as the released guide's own fill.sh prints them over the translation 7e8bb3a8045e8059… (all of the seat's roots in one cut). By AI agents, Wed Nov 11 2026. No macro, syntax, notation, axiom, sorry.
-/
import Derived.Test.YthkdnehgamefiaaGreatChecked
import GoSem.Claim
import GoSem.ClaimJoined
import GoSem.ClaimMapViews
import Derived.JoinedTies
import Derived.KernelRfl
namespace Go.Proofs.YthkdnehgamefiaaGreat
/- THE CELL 'sum', in the pinned program and in every row, IS THE sha256 OF THE DUMP (.gsa) THAT YthkdnehgamefiaaGreatProg.lean LOADS. Nothing in Lean hashes anything: it is a label: what it is worth is what the hold of that sum in a sandbox is worth. -/
noncomputable def Tryz.pinned : Pinned := { name := "ythkdnehgamefiaagreat", sum := "7e8bb3a8045e80594a4e69c9cd6f49c4db03c1977d7512d9dc9b818f873e4113", checked := Tryz.checked }
namespace Rows
def none {H : Type} : Left H := { results := [], args := [] }

/-- 'eyotlaw11.JointTells': WHATEVER THE INPUT: true; the input reads as it did. -/
def jointTellsSpec : ChangeSpec := { name := "jointTells", fn := fun _ => fun
  | [d1, d2, d3] => { results := [.lit (.bool true)], args := [d1, d2, d3] }
  | _ => none }
def jointTellsRow : OpenClaim := { program := "ythkdnehgamefiaagreat", sum := "7e8bb3a8045e80594a4e69c9cd6f49c4db03c1977d7512d9dc9b818f873e4113", func := "eyot/eyotlaw11.JointTells", spec := "jointTells", inPlace := ["internal/bytealg.IndexByteString", "internal/bytealg.IndexString"], unfollowed := true, recurses := true, named := ["internal/bytealg.MaxLen"], apart := false }
def JointTellsSaid : Prop := jointTellsRow.holds Tryz.pinned (OpenSpec.ofChange jointTellsSpec)

/-- ITS FALSE NEIGHBOUR: 'it returns false'. Refute it at one input. -/
def jointTellsWrong : ChangeSpec := { name := "jointTells", fn := fun _ => fun
  | [d1, d2, d3] => { results := [.lit (.bool false)], args := [d1, d2, d3] }
  | _ => none }
def JointTellsWrongFalsely : Prop := jointTellsRow.holds Tryz.pinned (OpenSpec.ofChange jointTellsWrong)

/-- 'eyotlaw09.DialectRules': WHATEVER THE INPUT: true; the input reads as it did. -/
def dialectRulesSpec : ChangeSpec := { name := "dialectRules", fn := fun _ => fun
  | [d1, d2] => { results := [.lit (.bool true)], args := [d1, d2] }
  | _ => none }
def dialectRulesRow : OpenClaim := { program := "ythkdnehgamefiaagreat", sum := "7e8bb3a8045e80594a4e69c9cd6f49c4db03c1977d7512d9dc9b818f873e4113", func := "eyot/eyotlaw09.DialectRules", spec := "dialectRules", inPlace := ["internal/bytealg.IndexByteString", "internal/bytealg.IndexString", "internal/abi.NoEscape", "internal/bytealg.MakeNoZero"], unfollowed := true, recurses := true, named := ["internal/bytealg.MaxLen"], loops := true, apart := false }
def DialectRulesSaid : Prop := dialectRulesRow.holds Tryz.pinned (OpenSpec.ofChange dialectRulesSpec)

/-- ITS FALSE NEIGHBOUR: 'it returns false'. Refute it at one input. -/
def dialectRulesWrong : ChangeSpec := { name := "dialectRules", fn := fun _ => fun
  | [d1, d2] => { results := [.lit (.bool false)], args := [d1, d2] }
  | _ => none }
def DialectRulesWrongFalsely : Prop := dialectRulesRow.holds Tryz.pinned (OpenSpec.ofChange dialectRulesWrong)

/-- 'eyotlaw09.DialectBack': WHATEVER THE INPUT: true; the input reads as it did. -/
def dialectBackSpec : ChangeSpec := { name := "dialectBack", fn := fun _ => fun
  | [d1, d2] => { results := [.lit (.bool true)], args := [d1, d2] }
  | _ => none }
def dialectBackRow : OpenClaim := { program := "ythkdnehgamefiaagreat", sum := "7e8bb3a8045e80594a4e69c9cd6f49c4db03c1977d7512d9dc9b818f873e4113", func := "eyot/eyotlaw09.DialectBack", spec := "dialectBack", inPlace := ["internal/bytealg.IndexByteString", "internal/abi.NoEscape", "internal/bytealg.MakeNoZero", "internal/bytealg.IndexString"], unfollowed := true, recurses := true, named := ["internal/bytealg.MaxLen"], loops := true, apart := false }
def DialectBackSaid : Prop := dialectBackRow.holds Tryz.pinned (OpenSpec.ofChange dialectBackSpec)

/-- ITS FALSE NEIGHBOUR: 'it returns false'. Refute it at one input. -/
def dialectBackWrong : ChangeSpec := { name := "dialectBack", fn := fun _ => fun
  | [d1, d2] => { results := [.lit (.bool false)], args := [d1, d2] }
  | _ => none }
def DialectBackWrongFalsely : Prop := dialectBackRow.holds Tryz.pinned (OpenSpec.ofChange dialectBackWrong)

/- THE SECOND FORM. 'bulk': how many values and letters a reading holds, each counted each time it is reached (what is shared counts as often as it is met; a slice's spare places count too). A statement '..UptoSaid' is the law's where the arguments, and the package variables that the reading takes, are together of bulk at most 1048576: NARROWER than '..Said'. Prove '..Said' where nothing that the law and all that it calls make is longer than what came in: it says more and counts as full. Else prove '..UptoSaid'. A law counts once. -/
mutual
def uptoBulk {H : Type} : DataW H → Nat
  | .lit (.string bytes) => bytes.length + 1
  | .lit _ => 1
  | .nil => 1
  | .ptr d => uptoBulk d + 1
  | .slice elems spare => uptoBulkAll elems + uptoBulkAll spare + 1
  | .agg parts => uptoBulkAll parts + 1
  | .iface _ d => uptoBulk d + 1
  | .map entries => uptoBulkEntries entries + 1
  | .held _ => 1
def uptoBulkAll {H : Type} : List (DataW H) → Nat
  | [] => 0
  | d :: r => uptoBulk d + uptoBulkAll r
def uptoBulkEntries {H : Type} : List (Lit × DataW H) → Nat
  | [] => 0
  | x :: r => uptoBulkEntry x + uptoBulkEntries r
def uptoBulkEntry {H : Type} : Lit × DataW H → Nat
  | (.string bytes, d) => bytes.length + uptoBulk d + 1
  | (_, d) => uptoBulk d + 1
 end
def uptoSmall : (H : Type) → List (DataW H) → Bool := fun _ ds => decide (uptoBulkAll ds ≤ 1048576)
def OpenSpec.upto (s : _root_.Go.ChangeSpec) : _root_.Go.OpenSpec := { _root_.Go.OpenSpec.ofChange s with cond := some uptoSmall }

/-- 'eyotlaw11.JointTells', WHERE WHAT IT READS IS OF BULK AT MOST 1048576: true; the input reads as it did. -/
def jointTellsUptoRow : OpenClaim := { program := "ythkdnehgamefiaagreat", sum := "7e8bb3a8045e80594a4e69c9cd6f49c4db03c1977d7512d9dc9b818f873e4113", func := "eyot/eyotlaw11.JointTells", spec := "jointTells", inPlace := ["internal/bytealg.IndexByteString", "internal/bytealg.IndexString"], unfollowed := true, recurses := true, named := ["internal/bytealg.MaxLen"], apart := false, narrowed := true }
def JointTellsUptoSaid : Prop := jointTellsUptoRow.holds Tryz.pinned (OpenSpec.upto jointTellsSpec)

/-- 'eyotlaw09.DialectRules', WHERE WHAT IT READS IS OF BULK AT MOST 1048576: true; the input reads as it did. -/
def dialectRulesUptoRow : OpenClaim := { program := "ythkdnehgamefiaagreat", sum := "7e8bb3a8045e80594a4e69c9cd6f49c4db03c1977d7512d9dc9b818f873e4113", func := "eyot/eyotlaw09.DialectRules", spec := "dialectRules", inPlace := ["internal/bytealg.IndexByteString", "internal/bytealg.IndexString", "internal/abi.NoEscape", "internal/bytealg.MakeNoZero"], unfollowed := true, recurses := true, named := ["internal/bytealg.MaxLen"], loops := true, apart := false, narrowed := true }
def DialectRulesUptoSaid : Prop := dialectRulesUptoRow.holds Tryz.pinned (OpenSpec.upto dialectRulesSpec)

/-- 'eyotlaw09.DialectBack', WHERE WHAT IT READS IS OF BULK AT MOST 1048576: true; the input reads as it did. -/
def dialectBackUptoRow : OpenClaim := { program := "ythkdnehgamefiaagreat", sum := "7e8bb3a8045e80594a4e69c9cd6f49c4db03c1977d7512d9dc9b818f873e4113", func := "eyot/eyotlaw09.DialectBack", spec := "dialectBack", inPlace := ["internal/bytealg.IndexByteString", "internal/abi.NoEscape", "internal/bytealg.MakeNoZero", "internal/bytealg.IndexString"], unfollowed := true, recurses := true, named := ["internal/bytealg.MaxLen"], loops := true, apart := false, narrowed := true }
def DialectBackUptoSaid : Prop := dialectBackUptoRow.holds Tryz.pinned (OpenSpec.upto dialectBackSpec)

end Rows
end Go.Proofs.YthkdnehgamefiaaGreat
