/-
  No cell of these rows narrows 'for every input' (looked for: loops, veiled, ifaces, maps, wideKeys, modest, calm, conditions, laid).
  DERIVED. THE GIVEN ROWS OF THIS SEAT. 11 by the template 'for every input the law returns true; each argument reads behind the call as it read before'; 0 by the template 'total and deterministic' (their statements: YtgikhkjnemglbaaTotals.lean).
  GIVEN WITH THE SEED: the statements are not yours to turn. If you find one false, say at which input.
  Laid BY PROGRAM, IN A SANDBOX (cutbox-rows.mjs): the forced cells as the released guide's own fill.sh prints them over the translation 352f09a82eebceab… (all of the seat's roots in one cut). By AI agents, Wed Nov 11 2026. No macro, syntax, notation, axiom, sorry.
-/
import Derived.Test.YtgikhkjnemglbaaChecked
import GoSem.Claim
import GoSem.ClaimJoined
import GoSem.ClaimMapViews
import Derived.JoinedTies
import Derived.KernelRfl
namespace Go.Proofs.Ytgikhkjnemglbaa
/- THE CELL 'sum', in the pinned program and in every row, IS THE sha256 OF THE DUMP (.gsa) THAT YtgikhkjnemglbaaProg.lean LOADS. Nothing in Lean hashes anything: it is a label: what it is worth is what the hold of that sum in a sandbox is worth. -/
noncomputable def Try.pinned : Pinned := { name := "ytgikhkjnemglbaa", sum := "352f09a82eebceab54e67de807bf6aa41c9ef48dd55e6f753322709412bd09ef", checked := Try.checked }
namespace Rows
def none {H : Type} : Left H := { results := [], args := [] }

/-- 'eyotlaw11.JointNodes': WHATEVER THE INPUT: true; the input reads as it did. -/
def jointNodesSpec : ChangeSpec := { name := "jointNodes", fn := fun _ => fun
  | [d1, d2] => { results := [.lit (.bool true)], args := [d1, d2] }
  | _ => none }
def jointNodesRow : OpenClaim := { program := "ytgikhkjnemglbaa", sum := "352f09a82eebceab54e67de807bf6aa41c9ef48dd55e6f753322709412bd09ef", func := "eyot/eyotlaw11.JointNodes", spec := "jointNodes", inPlace := ["internal/bytealg.IndexByteString", "internal/bytealg.IndexString"], unfollowed := true, recurses := true, named := ["internal/bytealg.MaxLen"], apart := false }
def JointNodesSaid : Prop := jointNodesRow.holds Try.pinned (OpenSpec.ofChange jointNodesSpec)

/-- ITS FALSE NEIGHBOUR: 'it returns false'. Refute it at one input. -/
def jointNodesWrong : ChangeSpec := { name := "jointNodes", fn := fun _ => fun
  | [d1, d2] => { results := [.lit (.bool false)], args := [d1, d2] }
  | _ => none }
def JointNodesWrongFalsely : Prop := jointNodesRow.holds Try.pinned (OpenSpec.ofChange jointNodesWrong)

/-- 'eyotlaw11.JointBack': WHATEVER THE INPUT: true; the input reads as it did. -/
def jointBackSpec : ChangeSpec := { name := "jointBack", fn := fun _ => fun
  | [d1, d2] => { results := [.lit (.bool true)], args := [d1, d2] }
  | _ => none }
def jointBackRow : OpenClaim := { program := "ytgikhkjnemglbaa", sum := "352f09a82eebceab54e67de807bf6aa41c9ef48dd55e6f753322709412bd09ef", func := "eyot/eyotlaw11.JointBack", spec := "jointBack", inPlace := ["internal/bytealg.IndexByteString", "internal/bytealg.IndexString"], unfollowed := true, recurses := true, named := ["internal/bytealg.MaxLen"], apart := false }
def JointBackSaid : Prop := jointBackRow.holds Try.pinned (OpenSpec.ofChange jointBackSpec)

/-- ITS FALSE NEIGHBOUR: 'it returns false'. Refute it at one input. -/
def jointBackWrong : ChangeSpec := { name := "jointBack", fn := fun _ => fun
  | [d1, d2] => { results := [.lit (.bool false)], args := [d1, d2] }
  | _ => none }
def JointBackWrongFalsely : Prop := jointBackRow.holds Try.pinned (OpenSpec.ofChange jointBackWrong)

/-- 'eyotlaw12.EmptyTells': WHATEVER THE INPUT: true; the input reads as it did. -/
def emptyTellsSpec : ChangeSpec := { name := "emptyTells", fn := fun _ => fun
  | [d1, d2] => { results := [.lit (.bool true)], args := [d1, d2] }
  | _ => none }
def emptyTellsRow : OpenClaim := { program := "ytgikhkjnemglbaa", sum := "352f09a82eebceab54e67de807bf6aa41c9ef48dd55e6f753322709412bd09ef", func := "eyot/eyotlaw12.EmptyTells", spec := "emptyTells", unfollowed := true, recurses := true, apart := false }
def EmptyTellsSaid : Prop := emptyTellsRow.holds Try.pinned (OpenSpec.ofChange emptyTellsSpec)

/-- ITS FALSE NEIGHBOUR: 'it returns false'. Refute it at one input. -/
def emptyTellsWrong : ChangeSpec := { name := "emptyTells", fn := fun _ => fun
  | [d1, d2] => { results := [.lit (.bool false)], args := [d1, d2] }
  | _ => none }
def EmptyTellsWrongFalsely : Prop := emptyTellsRow.holds Try.pinned (OpenSpec.ofChange emptyTellsWrong)

/-- 'eyotlaw12.EmptyRules': WHATEVER THE INPUT: true; the input reads as it did. -/
def emptyRulesSpec : ChangeSpec := { name := "emptyRules", fn := fun _ => fun
  | [d1, d2] => { results := [.lit (.bool true)], args := [d1, d2] }
  | _ => none }
def emptyRulesRow : OpenClaim := { program := "ytgikhkjnemglbaa", sum := "352f09a82eebceab54e67de807bf6aa41c9ef48dd55e6f753322709412bd09ef", func := "eyot/eyotlaw12.EmptyRules", spec := "emptyRules", unfollowed := true, recurses := true, apart := false }
def EmptyRulesSaid : Prop := emptyRulesRow.holds Try.pinned (OpenSpec.ofChange emptyRulesSpec)

/-- ITS FALSE NEIGHBOUR: 'it returns false'. Refute it at one input. -/
def emptyRulesWrong : ChangeSpec := { name := "emptyRules", fn := fun _ => fun
  | [d1, d2] => { results := [.lit (.bool false)], args := [d1, d2] }
  | _ => none }
def EmptyRulesWrongFalsely : Prop := emptyRulesRow.holds Try.pinned (OpenSpec.ofChange emptyRulesWrong)

/-- 'eyotlaw12.EmptyRows': WHATEVER THE INPUT: true; the input reads as it did. -/
def emptyRowsSpec : ChangeSpec := { name := "emptyRows", fn := fun _ => fun
  | [d1, d2] => { results := [.lit (.bool true)], args := [d1, d2] }
  | _ => none }
def emptyRowsRow : OpenClaim := { program := "ytgikhkjnemglbaa", sum := "352f09a82eebceab54e67de807bf6aa41c9ef48dd55e6f753322709412bd09ef", func := "eyot/eyotlaw12.EmptyRows", spec := "emptyRows", unfollowed := true, recurses := true, apart := false }
def EmptyRowsSaid : Prop := emptyRowsRow.holds Try.pinned (OpenSpec.ofChange emptyRowsSpec)

/-- ITS FALSE NEIGHBOUR: 'it returns false'. Refute it at one input. -/
def emptyRowsWrong : ChangeSpec := { name := "emptyRows", fn := fun _ => fun
  | [d1, d2] => { results := [.lit (.bool false)], args := [d1, d2] }
  | _ => none }
def EmptyRowsWrongFalsely : Prop := emptyRowsRow.holds Try.pinned (OpenSpec.ofChange emptyRowsWrong)

/-- 'eyotlaw13.LeadTells': WHATEVER THE INPUT: true; the input reads as it did. -/
def leadTellsSpec : ChangeSpec := { name := "leadTells", fn := fun _ => fun
  | [d1, d2, d3] => { results := [.lit (.bool true)], args := [d1, d2, d3] }
  | _ => none }
def leadTellsRow : OpenClaim := { program := "ytgikhkjnemglbaa", sum := "352f09a82eebceab54e67de807bf6aa41c9ef48dd55e6f753322709412bd09ef", func := "eyot/eyotlaw13.LeadTells", spec := "leadTells", unfollowed := true, recurses := true, apart := false }
def LeadTellsSaid : Prop := leadTellsRow.holds Try.pinned (OpenSpec.ofChange leadTellsSpec)

/-- ITS FALSE NEIGHBOUR: 'it returns false'. Refute it at one input. -/
def leadTellsWrong : ChangeSpec := { name := "leadTells", fn := fun _ => fun
  | [d1, d2, d3] => { results := [.lit (.bool false)], args := [d1, d2, d3] }
  | _ => none }
def LeadTellsWrongFalsely : Prop := leadTellsRow.holds Try.pinned (OpenSpec.ofChange leadTellsWrong)

/-- 'eyotlaw13.LeadRules': WHATEVER THE INPUT: true; the input reads as it did. -/
def leadRulesSpec : ChangeSpec := { name := "leadRules", fn := fun _ => fun
  | [d1, d2] => { results := [.lit (.bool true)], args := [d1, d2] }
  | _ => none }
def leadRulesRow : OpenClaim := { program := "ytgikhkjnemglbaa", sum := "352f09a82eebceab54e67de807bf6aa41c9ef48dd55e6f753322709412bd09ef", func := "eyot/eyotlaw13.LeadRules", spec := "leadRules", unfollowed := true, recurses := true, apart := false }
def LeadRulesSaid : Prop := leadRulesRow.holds Try.pinned (OpenSpec.ofChange leadRulesSpec)

/-- ITS FALSE NEIGHBOUR: 'it returns false'. Refute it at one input. -/
def leadRulesWrong : ChangeSpec := { name := "leadRules", fn := fun _ => fun
  | [d1, d2] => { results := [.lit (.bool false)], args := [d1, d2] }
  | _ => none }
def LeadRulesWrongFalsely : Prop := leadRulesRow.holds Try.pinned (OpenSpec.ofChange leadRulesWrong)

/-- 'eyotlaw13.LeadPuts': WHATEVER THE INPUT: true; the input reads as it did. -/
def leadPutsSpec : ChangeSpec := { name := "leadPuts", fn := fun _ => fun
  | [d] => { results := [.lit (.bool true)], args := [d] }
  | _ => none }
def leadPutsRow : OpenClaim := { program := "ytgikhkjnemglbaa", sum := "352f09a82eebceab54e67de807bf6aa41c9ef48dd55e6f753322709412bd09ef", func := "eyot/eyotlaw13.LeadPuts", spec := "leadPuts", unfollowed := true, recurses := true, apart := false }
def LeadPutsSaid : Prop := leadPutsRow.holds Try.pinned (OpenSpec.ofChange leadPutsSpec)

/-- ITS FALSE NEIGHBOUR: 'it returns false'. Refute it at one input. -/
def leadPutsWrong : ChangeSpec := { name := "leadPuts", fn := fun _ => fun
  | [d] => { results := [.lit (.bool false)], args := [d] }
  | _ => none }
def LeadPutsWrongFalsely : Prop := leadPutsRow.holds Try.pinned (OpenSpec.ofChange leadPutsWrong)

/-- 'eyotlaw15.FirstTells': WHATEVER THE INPUT: true; the input reads as it did. -/
def firstTellsSpec : ChangeSpec := { name := "firstTells", fn := fun _ => fun
  | [d1, d2] => { results := [.lit (.bool true)], args := [d1, d2] }
  | _ => none }
def firstTellsRow : OpenClaim := { program := "ytgikhkjnemglbaa", sum := "352f09a82eebceab54e67de807bf6aa41c9ef48dd55e6f753322709412bd09ef", func := "eyot/eyotlaw15.FirstTells", spec := "firstTells", unfollowed := true, recurses := true, apart := false }
def FirstTellsSaid : Prop := firstTellsRow.holds Try.pinned (OpenSpec.ofChange firstTellsSpec)

/-- ITS FALSE NEIGHBOUR: 'it returns false'. Refute it at one input. -/
def firstTellsWrong : ChangeSpec := { name := "firstTells", fn := fun _ => fun
  | [d1, d2] => { results := [.lit (.bool false)], args := [d1, d2] }
  | _ => none }
def FirstTellsWrongFalsely : Prop := firstTellsRow.holds Try.pinned (OpenSpec.ofChange firstTellsWrong)

/-- 'eyotlaw15.FirstRules': WHATEVER THE INPUT: true; the input reads as it did. -/
def firstRulesSpec : ChangeSpec := { name := "firstRules", fn := fun _ => fun
  | [d1, d2] => { results := [.lit (.bool true)], args := [d1, d2] }
  | _ => none }
def firstRulesRow : OpenClaim := { program := "ytgikhkjnemglbaa", sum := "352f09a82eebceab54e67de807bf6aa41c9ef48dd55e6f753322709412bd09ef", func := "eyot/eyotlaw15.FirstRules", spec := "firstRules", unfollowed := true, recurses := true, apart := false }
def FirstRulesSaid : Prop := firstRulesRow.holds Try.pinned (OpenSpec.ofChange firstRulesSpec)

/-- ITS FALSE NEIGHBOUR: 'it returns false'. Refute it at one input. -/
def firstRulesWrong : ChangeSpec := { name := "firstRules", fn := fun _ => fun
  | [d1, d2] => { results := [.lit (.bool false)], args := [d1, d2] }
  | _ => none }
def FirstRulesWrongFalsely : Prop := firstRulesRow.holds Try.pinned (OpenSpec.ofChange firstRulesWrong)

/-- 'eyotlaw15.FirstEnds': WHATEVER THE INPUT: true; the input reads as it did. -/
def firstEndsSpec : ChangeSpec := { name := "firstEnds", fn := fun _ => fun
  | [d1, d2] => { results := [.lit (.bool true)], args := [d1, d2] }
  | _ => none }
def firstEndsRow : OpenClaim := { program := "ytgikhkjnemglbaa", sum := "352f09a82eebceab54e67de807bf6aa41c9ef48dd55e6f753322709412bd09ef", func := "eyot/eyotlaw15.FirstEnds", spec := "firstEnds", unfollowed := true, recurses := true, apart := false }
def FirstEndsSaid : Prop := firstEndsRow.holds Try.pinned (OpenSpec.ofChange firstEndsSpec)

/-- ITS FALSE NEIGHBOUR: 'it returns false'. Refute it at one input. -/
def firstEndsWrong : ChangeSpec := { name := "firstEnds", fn := fun _ => fun
  | [d1, d2] => { results := [.lit (.bool false)], args := [d1, d2] }
  | _ => none }
def FirstEndsWrongFalsely : Prop := firstEndsRow.holds Try.pinned (OpenSpec.ofChange firstEndsWrong)

/- THE SECOND FORM. 'bulk': how many values and letters a reading holds, each counted each time it is reached (what is shared counts as often as it is met; a slice's spare places count too). A statement '..UptoSaid' is the law's where the arguments, and the package variables that the reading takes, are together of bulk at most 1048576: NARROWER than '..Said'. Prove '..Said' where nothing that the law and all that it calls make is longer than what came in: it says more and counts as full. Else prove '..UptoSaid'. A law counts once. -/
mutual
def uptoBulk {H : Type} : DataW H → Nat
  | .lit (.string bytes) => bytes.length + 1
  | .lit _ => 1
  | .nil => 1
  | .ptr d => uptoBulk d + 1
  | .slice elems spare => uptoBulkAll elems + uptoBulkAll spare + 1
  | .agg parts => uptoBulkAll parts + 1
  | .iface _ d => uptoBulk d + 1
  | .map entries => uptoBulkEntries entries + 1
  | .held _ => 1
def uptoBulkAll {H : Type} : List (DataW H) → Nat
  | [] => 0
  | d :: r => uptoBulk d + uptoBulkAll r
def uptoBulkEntries {H : Type} : List (Lit × DataW H) → Nat
  | [] => 0
  | x :: r => uptoBulkEntry x + uptoBulkEntries r
def uptoBulkEntry {H : Type} : Lit × DataW H → Nat
  | (.string bytes, d) => bytes.length + uptoBulk d + 1
  | (_, d) => uptoBulk d + 1
 end
def uptoSmall : (H : Type) → List (DataW H) → Bool := fun _ ds => decide (uptoBulkAll ds ≤ 1048576)
def OpenSpec.upto (s : _root_.Go.ChangeSpec) : _root_.Go.OpenSpec := { _root_.Go.OpenSpec.ofChange s with cond := some uptoSmall }

/-- 'eyotlaw11.JointNodes', WHERE WHAT IT READS IS OF BULK AT MOST 1048576: true; the input reads as it did. -/
def jointNodesUptoRow : OpenClaim := { program := "ytgikhkjnemglbaa", sum := "352f09a82eebceab54e67de807bf6aa41c9ef48dd55e6f753322709412bd09ef", func := "eyot/eyotlaw11.JointNodes", spec := "jointNodes", inPlace := ["internal/bytealg.IndexByteString", "internal/bytealg.IndexString"], unfollowed := true, recurses := true, named := ["internal/bytealg.MaxLen"], apart := false, narrowed := true }
def JointNodesUptoSaid : Prop := jointNodesUptoRow.holds Try.pinned (OpenSpec.upto jointNodesSpec)

/-- 'eyotlaw11.JointBack', WHERE WHAT IT READS IS OF BULK AT MOST 1048576: true; the input reads as it did. -/
def jointBackUptoRow : OpenClaim := { program := "ytgikhkjnemglbaa", sum := "352f09a82eebceab54e67de807bf6aa41c9ef48dd55e6f753322709412bd09ef", func := "eyot/eyotlaw11.JointBack", spec := "jointBack", inPlace := ["internal/bytealg.IndexByteString", "internal/bytealg.IndexString"], unfollowed := true, recurses := true, named := ["internal/bytealg.MaxLen"], apart := false, narrowed := true }
def JointBackUptoSaid : Prop := jointBackUptoRow.holds Try.pinned (OpenSpec.upto jointBackSpec)

/-- 'eyotlaw12.EmptyTells', WHERE WHAT IT READS IS OF BULK AT MOST 1048576: true; the input reads as it did. -/
def emptyTellsUptoRow : OpenClaim := { program := "ytgikhkjnemglbaa", sum := "352f09a82eebceab54e67de807bf6aa41c9ef48dd55e6f753322709412bd09ef", func := "eyot/eyotlaw12.EmptyTells", spec := "emptyTells", unfollowed := true, recurses := true, apart := false, narrowed := true }
def EmptyTellsUptoSaid : Prop := emptyTellsUptoRow.holds Try.pinned (OpenSpec.upto emptyTellsSpec)

/-- 'eyotlaw12.EmptyRules', WHERE WHAT IT READS IS OF BULK AT MOST 1048576: true; the input reads as it did. -/
def emptyRulesUptoRow : OpenClaim := { program := "ytgikhkjnemglbaa", sum := "352f09a82eebceab54e67de807bf6aa41c9ef48dd55e6f753322709412bd09ef", func := "eyot/eyotlaw12.EmptyRules", spec := "emptyRules", unfollowed := true, recurses := true, apart := false, narrowed := true }
def EmptyRulesUptoSaid : Prop := emptyRulesUptoRow.holds Try.pinned (OpenSpec.upto emptyRulesSpec)

/-- 'eyotlaw12.EmptyRows', WHERE WHAT IT READS IS OF BULK AT MOST 1048576: true; the input reads as it did. -/
def emptyRowsUptoRow : OpenClaim := { program := "ytgikhkjnemglbaa", sum := "352f09a82eebceab54e67de807bf6aa41c9ef48dd55e6f753322709412bd09ef", func := "eyot/eyotlaw12.EmptyRows", spec := "emptyRows", unfollowed := true, recurses := true, apart := false, narrowed := true }
def EmptyRowsUptoSaid : Prop := emptyRowsUptoRow.holds Try.pinned (OpenSpec.upto emptyRowsSpec)

/-- 'eyotlaw13.LeadTells', WHERE WHAT IT READS IS OF BULK AT MOST 1048576: true; the input reads as it did. -/
def leadTellsUptoRow : OpenClaim := { program := "ytgikhkjnemglbaa", sum := "352f09a82eebceab54e67de807bf6aa41c9ef48dd55e6f753322709412bd09ef", func := "eyot/eyotlaw13.LeadTells", spec := "leadTells", unfollowed := true, recurses := true, apart := false, narrowed := true }
def LeadTellsUptoSaid : Prop := leadTellsUptoRow.holds Try.pinned (OpenSpec.upto leadTellsSpec)

/-- 'eyotlaw13.LeadRules', WHERE WHAT IT READS IS OF BULK AT MOST 1048576: true; the input reads as it did. -/
def leadRulesUptoRow : OpenClaim := { program := "ytgikhkjnemglbaa", sum := "352f09a82eebceab54e67de807bf6aa41c9ef48dd55e6f753322709412bd09ef", func := "eyot/eyotlaw13.LeadRules", spec := "leadRules", unfollowed := true, recurses := true, apart := false, narrowed := true }
def LeadRulesUptoSaid : Prop := leadRulesUptoRow.holds Try.pinned (OpenSpec.upto leadRulesSpec)

/-- 'eyotlaw13.LeadPuts', WHERE WHAT IT READS IS OF BULK AT MOST 1048576: true; the input reads as it did. -/
def leadPutsUptoRow : OpenClaim := { program := "ytgikhkjnemglbaa", sum := "352f09a82eebceab54e67de807bf6aa41c9ef48dd55e6f753322709412bd09ef", func := "eyot/eyotlaw13.LeadPuts", spec := "leadPuts", unfollowed := true, recurses := true, apart := false, narrowed := true }
def LeadPutsUptoSaid : Prop := leadPutsUptoRow.holds Try.pinned (OpenSpec.upto leadPutsSpec)

/-- 'eyotlaw15.FirstTells', WHERE WHAT IT READS IS OF BULK AT MOST 1048576: true; the input reads as it did. -/
def firstTellsUptoRow : OpenClaim := { program := "ytgikhkjnemglbaa", sum := "352f09a82eebceab54e67de807bf6aa41c9ef48dd55e6f753322709412bd09ef", func := "eyot/eyotlaw15.FirstTells", spec := "firstTells", unfollowed := true, recurses := true, apart := false, narrowed := true }
def FirstTellsUptoSaid : Prop := firstTellsUptoRow.holds Try.pinned (OpenSpec.upto firstTellsSpec)

/-- 'eyotlaw15.FirstRules', WHERE WHAT IT READS IS OF BULK AT MOST 1048576: true; the input reads as it did. -/
def firstRulesUptoRow : OpenClaim := { program := "ytgikhkjnemglbaa", sum := "352f09a82eebceab54e67de807bf6aa41c9ef48dd55e6f753322709412bd09ef", func := "eyot/eyotlaw15.FirstRules", spec := "firstRules", unfollowed := true, recurses := true, apart := false, narrowed := true }
def FirstRulesUptoSaid : Prop := firstRulesUptoRow.holds Try.pinned (OpenSpec.upto firstRulesSpec)

/-- 'eyotlaw15.FirstEnds', WHERE WHAT IT READS IS OF BULK AT MOST 1048576: true; the input reads as it did. -/
def firstEndsUptoRow : OpenClaim := { program := "ytgikhkjnemglbaa", sum := "352f09a82eebceab54e67de807bf6aa41c9ef48dd55e6f753322709412bd09ef", func := "eyot/eyotlaw15.FirstEnds", spec := "firstEnds", unfollowed := true, recurses := true, apart := false, narrowed := true }
def FirstEndsUptoSaid : Prop := firstEndsUptoRow.holds Try.pinned (OpenSpec.upto firstEndsSpec)

end Rows
end Go.Proofs.Ytgikhkjnemglbaa
