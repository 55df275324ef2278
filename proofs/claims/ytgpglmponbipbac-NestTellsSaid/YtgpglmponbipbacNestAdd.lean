/- What Add does to the list. -/
import Derived.Test.YtgpglmponbipbacNestMath
namespace Go.Proofs.Ytgpglmponbipbac
set_option linter.unusedVariables false
open Go.RowKit Go.Sort

def addF (n : Nat) (top : Int) (j : Nat) (x : Nd) : Nd := ⟨x.kd, x.nm, x.fr, x.tt, if 0 ≤ x.up ∧ x.up < (j : Int) then x.up + (n : Int) else top⟩
def addTo (L : List Nd) (top : Int) (P : List Nd) : Nat → List Nd
  | 0 => L
  | i + 1 => match P[i]? with
    | some x => addTo L top P i ++ [addF L.length top i x]
    | none => addTo L top P i
def addL (L : List Nd) (top : Int) (P : List Nd) : List Nd := addTo L top P P.length
theorem addTo_succ {L : List Nd} {top : Int} {P : List Nd} {i : Nat} {x : Nd} (h : P[i]? = some x) : addTo L top P (i + 1) = addTo L top P i ++ [addF L.length top i x] := by
  show (match P[i]? with | some x => _ | none => _) = _
  rw [h]
theorem addTo_len {L : List Nd} {top : Int} {P : List Nd} : ∀ i, i ≤ P.length → (addTo L top P i).length = L.length + i
  | 0, _ => rfl
  | i + 1, h => by
    rw [addTo_succ (List.getElem?_eq_getElem (by omega)), List.length_append, addTo_len i (by omega)]; simp; omega
end Go.Proofs.Ytgpglmponbipbac
