/- A region in the text's own order, whose operations read, and whose callees make memory alone: walked as one that draws its order is. -/
import Derived.Test.YtnopnjleibbakabOwn
import Derived.Lib.QuietBelow
namespace Go.Proofs.Ytnopnjleibbakab
set_option linter.unusedVariables false
open Go.RowKit Go.Sort

theorem wpList_of_quiet {P : Program} {ops : Array Oper} {C : World → Prop} {QA : Act → Prop} {Q : Exit → Act → World → Prop} (hQ : ∀ a w, C w → QA a → Q .normal a w) :
    ∀ (l : List Oper) (a : Act) (w : World), C w → wpQuiet P ops C QA l a → wpList P ops Q l a w
  | [], a, w, hC, h => hQ a w hC h
  | o :: rest, a, w, hC, h => by
    unfold wpQuiet at h
    unfold wpList
    split
    · rename_i hw
      rw [if_pos hw] at h
      first
        | exact Oper.wp_of_quiet hC (fun a' w' hC' h' => wpList_of_quiet hQ rest a' w' hC' h') h
        | exact .inl (Oper.wp_of_quiet hC (fun a' w' hC' h' => wpList_of_quiet hQ rest a' w' hC' h') h)
    · rename_i hw
      rw [if_neg hw] at h
      exact wpList_of_quiet hQ rest _ w hC h

theorem wp_region_plain_below {P : Program} {id : Nat} {Q : Exit → Act → World → Prop} {a : Act} {w : World} {l : List Oper}
    (h : wpQuiet P l.toArray (fun w' => ∃ p : Regrown, w' = grow (redrawn w p.d) p.os) (fun a' => ∀ w', (∃ p : Regrown, w' = grow (redrawn w p.d) p.os) → Q .normal a' w') l a) : (Code.region id l.toArray false).wp P Q a w :=
  wp_region_lit (wpList_of_quiet (fun _ w' hC hq => hq w' hC) l a w ⟨⟨w.drawn, #[]⟩, by rw [grow_empty]; rfl⟩ h)
end Go.Proofs.Ytnopnjleibbakab
