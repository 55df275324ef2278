/- What a walk asks of the small dialect's grammar. -/
import Derived.Test.YtbjgojdpfehnmaaIa
namespace Go.Proofs.Ytbjgojdpfehnmaa
set_option linter.unusedVariables false
open Go.RowKit Go.Sort
def goodB (gr : Gj) : Bool := decide (gr.ns.length ≤ 160) && gr.ns.all (fun x => decide (x.ks.length ≤ 90001) && x.ks.all (fun k => decide (k < gr.ns.length)) && (x.op != 11 || (decide (0 ≤ x.tg) && (match gr.hs[x.tg.toNat]? with
 | some h => decide (h.bo < gr.ns.length)
 | none => false))))
theorem goodG_of {gr : Gj} (h : goodB gr = true) : Good gr := by
 unfold goodB at h
 rw [Bool.and_eq_true, List.all_eq_true] at h
 obtain ⟨h1, h2⟩ := h
 refine ⟨of_decide_eq_true h1, fun x hx => ?_, fun x hx k hk => ?_, fun x hx h11 => ?_⟩
 ·
  have := h2 x hx
  rw [Bool.and_eq_true, Bool.and_eq_true] at this
  exact of_decide_eq_true this.1.1
 ·
  have := h2 x hx
  rw [Bool.and_eq_true, Bool.and_eq_true, List.all_eq_true] at this
  exact of_decide_eq_true (this.1.2 k hk)
 ·
  have := h2 x hx
  rw [Bool.and_eq_true, h11] at this
  have h3 := this.2
  rw [show ((11 : Int) != 11) = false from rfl, Bool.false_or, Bool.and_eq_true] at h3
  obtain ⟨h4, h5⟩ := h3
  have h6 := of_decide_eq_true h4
  refine ⟨x.tg.toNat, ?_⟩
  cases hh : gr.hs[x.tg.toNat]? with
  | none => rw [hh] at h5; cases h5
  | some h => rw [hh] at h5; exact ⟨h, by omega, rfl, of_decide_eq_true h5⟩
theorem mini_good : Good miniG := goodG_of (by kernel_rfl)
end Go.Proofs.Ytbjgojdpfehnmaa
