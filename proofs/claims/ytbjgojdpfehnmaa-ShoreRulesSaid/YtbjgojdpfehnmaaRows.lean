/-
  No cell of these rows narrows 'for every input' (looked for: loops, veiled, ifaces, maps, wideKeys, modest, calm, conditions, laid).
  DERIVED. THE GIVEN ROWS OF THIS SEAT. 5 by the template 'for every input the law returns true; each argument reads behind the call as it read before'; 0 by the template 'total and deterministic' (their statements: YtbjgojdpfehnmaaTotals.lean).
  GIVEN WITH THE SEED: the statements are not yours to turn. If you find one false, say at which input.
  Laid BY PROGRAM, IN A SANDBOX (cutbox-rows.mjs): the forced cells as the released guide's own fill.sh prints them over the translation 08be2ef2e035ca18… (all of the seat's roots in one cut). By AI agents, Wed Nov 11 2026. No macro, syntax, notation, axiom, sorry.
-/
import Derived.Test.YtbjgojdpfehnmaaChecked
import GoSem.Claim
import GoSem.ClaimJoined
import GoSem.ClaimMapViews
import Derived.JoinedTies
import Derived.KernelRfl
namespace Go.Proofs.Ytbjgojdpfehnmaa
/- THE CELL 'sum', in the pinned program and in every row, IS THE sha256 OF THE DUMP (.gsa) THAT YtbjgojdpfehnmaaProg.lean LOADS. Nothing in Lean hashes anything: it is a label: what it is worth is what the hold of that sum in a sandbox is worth. -/
noncomputable def Try.pinned : Pinned := { name := "ytbjgojdpfehnmaa", sum := "08be2ef2e035ca18f549a705942b952975ec2bebb5f99f8d1717993f6287b7b2", checked := Try.checked }
namespace Rows
def none {H : Type} : Left H := { results := [], args := [] }

/-- 'eyotlaw13.LeadTells': WHATEVER THE INPUT: true; the input reads as it did. -/
def leadTellsSpec : ChangeSpec := { name := "leadTells", fn := fun _ => fun
  | [d1, d2, d3] => { results := [.lit (.bool true)], args := [d1, d2, d3] }
  | _ => none }
def leadTellsRow : OpenClaim := { program := "ytbjgojdpfehnmaa", sum := "08be2ef2e035ca18f549a705942b952975ec2bebb5f99f8d1717993f6287b7b2", func := "eyot/eyotlaw13.LeadTells", spec := "leadTells", unfollowed := true, recurses := true, apart := false }
def LeadTellsSaid : Prop := leadTellsRow.holds Try.pinned (OpenSpec.ofChange leadTellsSpec)

/-- ITS FALSE NEIGHBOUR: 'it returns false'. Refute it at one input. -/
def leadTellsWrong : ChangeSpec := { name := "leadTells", fn := fun _ => fun
  | [d1, d2, d3] => { results := [.lit (.bool false)], args := [d1, d2, d3] }
  | _ => none }
def LeadTellsWrongFalsely : Prop := leadTellsRow.holds Try.pinned (OpenSpec.ofChange leadTellsWrong)

/-- 'eyotlaw13.LeadRules': WHATEVER THE INPUT: true; the input reads as it did. -/
def leadRulesSpec : ChangeSpec := { name := "leadRules", fn := fun _ => fun
  | [d1, d2] => { results := [.lit (.bool true)], args := [d1, d2] }
  | _ => none }
def leadRulesRow : OpenClaim := { program := "ytbjgojdpfehnmaa", sum := "08be2ef2e035ca18f549a705942b952975ec2bebb5f99f8d1717993f6287b7b2", func := "eyot/eyotlaw13.LeadRules", spec := "leadRules", unfollowed := true, recurses := true, apart := false }
def LeadRulesSaid : Prop := leadRulesRow.holds Try.pinned (OpenSpec.ofChange leadRulesSpec)

/-- ITS FALSE NEIGHBOUR: 'it returns false'. Refute it at one input. -/
def leadRulesWrong : ChangeSpec := { name := "leadRules", fn := fun _ => fun
  | [d1, d2] => { results := [.lit (.bool false)], args := [d1, d2] }
  | _ => none }
def LeadRulesWrongFalsely : Prop := leadRulesRow.holds Try.pinned (OpenSpec.ofChange leadRulesWrong)

/-- 'eyotlaw14.ShoreRules': WHATEVER THE INPUT: true; the input reads as it did. -/
def shoreRulesSpec : ChangeSpec := { name := "shoreRules", fn := fun _ => fun
  | [d1, d2] => { results := [.lit (.bool true)], args := [d1, d2] }
  | _ => none }
def shoreRulesRow : OpenClaim := { program := "ytbjgojdpfehnmaa", sum := "08be2ef2e035ca18f549a705942b952975ec2bebb5f99f8d1717993f6287b7b2", func := "eyot/eyotlaw14.ShoreRules", spec := "shoreRules", unfollowed := true, recurses := true, apart := false }
def ShoreRulesSaid : Prop := shoreRulesRow.holds Try.pinned (OpenSpec.ofChange shoreRulesSpec)

/-- ITS FALSE NEIGHBOUR: 'it returns false'. Refute it at one input. -/
def shoreRulesWrong : ChangeSpec := { name := "shoreRules", fn := fun _ => fun
  | [d1, d2] => { results := [.lit (.bool false)], args := [d1, d2] }
  | _ => none }
def ShoreRulesWrongFalsely : Prop := shoreRulesRow.holds Try.pinned (OpenSpec.ofChange shoreRulesWrong)

/-- 'eyotlaw14.ShoreLeast': WHATEVER THE INPUT: true; the input reads as it did. -/
def shoreLeastSpec : ChangeSpec := { name := "shoreLeast", fn := fun _ => fun
  | [d1, d2] => { results := [.lit (.bool true)], args := [d1, d2] }
  | _ => none }
def shoreLeastRow : OpenClaim := { program := "ytbjgojdpfehnmaa", sum := "08be2ef2e035ca18f549a705942b952975ec2bebb5f99f8d1717993f6287b7b2", func := "eyot/eyotlaw14.ShoreLeast", spec := "shoreLeast", unfollowed := true, recurses := true, apart := false }
def ShoreLeastSaid : Prop := shoreLeastRow.holds Try.pinned (OpenSpec.ofChange shoreLeastSpec)

/-- ITS FALSE NEIGHBOUR: 'it returns false'. Refute it at one input. -/
def shoreLeastWrong : ChangeSpec := { name := "shoreLeast", fn := fun _ => fun
  | [d1, d2] => { results := [.lit (.bool false)], args := [d1, d2] }
  | _ => none }
def ShoreLeastWrongFalsely : Prop := shoreLeastRow.holds Try.pinned (OpenSpec.ofChange shoreLeastWrong)

/-- 'eyotlaw15.FirstRules': WHATEVER THE INPUT: true; the input reads as it did. -/
def firstRulesSpec : ChangeSpec := { name := "firstRules", fn := fun _ => fun
  | [d1, d2] => { results := [.lit (.bool true)], args := [d1, d2] }
  | _ => none }
def firstRulesRow : OpenClaim := { program := "ytbjgojdpfehnmaa", sum := "08be2ef2e035ca18f549a705942b952975ec2bebb5f99f8d1717993f6287b7b2", func := "eyot/eyotlaw15.FirstRules", spec := "firstRules", unfollowed := true, recurses := true, apart := false }
def FirstRulesSaid : Prop := firstRulesRow.holds Try.pinned (OpenSpec.ofChange firstRulesSpec)

/-- ITS FALSE NEIGHBOUR: 'it returns false'. Refute it at one input. -/
def firstRulesWrong : ChangeSpec := { name := "firstRules", fn := fun _ => fun
  | [d1, d2] => { results := [.lit (.bool false)], args := [d1, d2] }
  | _ => none }
def FirstRulesWrongFalsely : Prop := firstRulesRow.holds Try.pinned (OpenSpec.ofChange firstRulesWrong)

/- THE SECOND FORM. 'bulk': how many values and letters a reading holds, each counted each time it is reached (what is shared counts as often as it is met; a slice's spare places count too). A statement '..UptoSaid' is the law's where the arguments, and the package variables that the reading takes, are together of bulk at most 1048576: NARROWER than '..Said'. Prove '..Said' where nothing that the law and all that it calls make is longer than what came in: it says more and counts as full. Else prove '..UptoSaid'. A law counts once. -/
mutual
def uptoBulk {H : Type} : DataW H → Nat
  | .lit (.string bytes) => bytes.length + 1
  | .lit _ => 1
  | .nil => 1
  | .ptr d => uptoBulk d + 1
  | .slice elems spare => uptoBulkAll elems + uptoBulkAll spare + 1
  | .agg parts => uptoBulkAll parts + 1
  | .iface _ d => uptoBulk d + 1
  | .map entries => uptoBulkEntries entries + 1
  | .held _ => 1
def uptoBulkAll {H : Type} : List (DataW H) → Nat
  | [] => 0
  | d :: r => uptoBulk d + uptoBulkAll r
def uptoBulkEntries {H : Type} : List (Lit × DataW H) → Nat
  | [] => 0
  | x :: r => uptoBulkEntry x + uptoBulkEntries r
def uptoBulkEntry {H : Type} : Lit × DataW H → Nat
  | (.string bytes, d) => bytes.length + uptoBulk d + 1
  | (_, d) => uptoBulk d + 1
 end
def uptoSmall : (H : Type) → List (DataW H) → Bool := fun _ ds => decide (uptoBulkAll ds ≤ 1048576)
def OpenSpec.upto (s : _root_.Go.ChangeSpec) : _root_.Go.OpenSpec := { _root_.Go.OpenSpec.ofChange s with cond := some uptoSmall }

/-- 'eyotlaw13.LeadTells', WHERE WHAT IT READS IS OF BULK AT MOST 1048576: true; the input reads as it did. -/
def leadTellsUptoRow : OpenClaim := { program := "ytbjgojdpfehnmaa", sum := "08be2ef2e035ca18f549a705942b952975ec2bebb5f99f8d1717993f6287b7b2", func := "eyot/eyotlaw13.LeadTells", spec := "leadTells", unfollowed := true, recurses := true, apart := false, narrowed := true }
def LeadTellsUptoSaid : Prop := leadTellsUptoRow.holds Try.pinned (OpenSpec.upto leadTellsSpec)

/-- 'eyotlaw13.LeadRules', WHERE WHAT IT READS IS OF BULK AT MOST 1048576: true; the input reads as it did. -/
def leadRulesUptoRow : OpenClaim := { program := "ytbjgojdpfehnmaa", sum := "08be2ef2e035ca18f549a705942b952975ec2bebb5f99f8d1717993f6287b7b2", func := "eyot/eyotlaw13.LeadRules", spec := "leadRules", unfollowed := true, recurses := true, apart := false, narrowed := true }
def LeadRulesUptoSaid : Prop := leadRulesUptoRow.holds Try.pinned (OpenSpec.upto leadRulesSpec)

/-- 'eyotlaw14.ShoreRules', WHERE WHAT IT READS IS OF BULK AT MOST 1048576: true; the input reads as it did. -/
def shoreRulesUptoRow : OpenClaim := { program := "ytbjgojdpfehnmaa", sum := "08be2ef2e035ca18f549a705942b952975ec2bebb5f99f8d1717993f6287b7b2", func := "eyot/eyotlaw14.ShoreRules", spec := "shoreRules", unfollowed := true, recurses := true, apart := false, narrowed := true }
def ShoreRulesUptoSaid : Prop := shoreRulesUptoRow.holds Try.pinned (OpenSpec.upto shoreRulesSpec)

/-- 'eyotlaw14.ShoreLeast', WHERE WHAT IT READS IS OF BULK AT MOST 1048576: true; the input reads as it did. -/
def shoreLeastUptoRow : OpenClaim := { program := "ytbjgojdpfehnmaa", sum := "08be2ef2e035ca18f549a705942b952975ec2bebb5f99f8d1717993f6287b7b2", func := "eyot/eyotlaw14.ShoreLeast", spec := "shoreLeast", unfollowed := true, recurses := true, apart := false, narrowed := true }
def ShoreLeastUptoSaid : Prop := shoreLeastUptoRow.holds Try.pinned (OpenSpec.upto shoreLeastSpec)

/-- 'eyotlaw15.FirstRules', WHERE WHAT IT READS IS OF BULK AT MOST 1048576: true; the input reads as it did. -/
def firstRulesUptoRow : OpenClaim := { program := "ytbjgojdpfehnmaa", sum := "08be2ef2e035ca18f549a705942b952975ec2bebb5f99f8d1717993f6287b7b2", func := "eyot/eyotlaw15.FirstRules", spec := "firstRules", unfollowed := true, recurses := true, apart := false, narrowed := true }
def FirstRulesUptoSaid : Prop := firstRulesUptoRow.holds Try.pinned (OpenSpec.upto firstRulesSpec)

end Rows
end Go.Proofs.Ytbjgojdpfehnmaa
