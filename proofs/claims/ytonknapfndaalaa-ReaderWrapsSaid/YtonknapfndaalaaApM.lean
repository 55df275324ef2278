/- Whether two expressions are the same, and when they are written alike. Math alone. -/
import Derived.Test.YtonknapfndaalaaGo
import Derived.Test.YtonknapfndaalaaSmR
namespace Go.Proofs.Ytonknapfndaalaa
set_option linter.unusedVariables false
set_option maxRecDepth 1000000
open Go.RowKit Ex
theorem same_self : ∀ (n : Nat) (x : Ex), fit 90001 n x = true → sameX n x x = true
 | 0, x, h => by cases h
 | n + 1, x, h => by
  rw [sameX_succ, Bool.and_eq_true]
  refine ⟨by unfold hdrS; simp, allS_yes rfl fun j a b ha hb => ?_⟩
  rw [ha] at hb; cases hb
  exact same_self n a (fit_kid h ha)
end Go.Proofs.Ytonknapfndaalaa
