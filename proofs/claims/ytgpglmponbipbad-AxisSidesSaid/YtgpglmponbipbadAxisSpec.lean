/- What each of axis' functions comes to. No function in sight. -/
import Derived.Test.YtgpglmponbipbadLeaf
namespace Go.Proofs.Ytgpglmponbipbad
set_option linter.unusedVariables false
open Go.RowKit

def kidsL (l : Nodes) (i : Int) : List Int := sel (fun k => decide (l.up k = i) && decide (-1 ≤ i)) l.n
def nextL (l : Nodes) (i : Int) : List Int := if 0 ≤ i ∧ i < l.n then sel (fun k => decide (i.toNat + 1 ≤ k) && decide (l.up k = l.up i.toNat)) l.n else []
def leavesL (l : Nodes) : List Int := sel (fun k => decide (l.kd k = 4) || decide (l.kd k = 5)) l.n
def upL (l : Nodes) (i : Int) : List Int := if 0 ≤ i ∧ i < l.n ∧ 0 ≤ l.up i.toNat then [l.up i.toNat] else []
def textS (l : Nodes) (s : ByteArray) (i : Int) : ByteArray :=
  if 0 ≤ i ∧ i < l.n ∧ max (l.fr i.toNat) 0 < min (l.tt i.toNat) s.size then s.extract (max (l.fr i.toNat) 0).toNat (min (l.tt i.toNat) s.size).toNat else ⟨#[]⟩
def okN (l : Nodes) (k : Nat) : Bool := decide (-1 ≤ l.up k) && decide (l.up k < k)
def rightB (l : Nodes) : Nat → Bool | 0 => true | k + 1 => rightB l k && okN l k
theorem right_step {l : Nodes} {k : Nat} (h : rightB l k = true) (h2 : okN l k = true) : rightB l (k + 1) = true := by show (rightB l k && okN l k) = true; rw [h, h2]; rfl
theorem right_bad {l : Nodes} {k : Nat} (h : okN l k = false) : ∀ d, rightB l (k + 1 + d) = false
  | 0 => by show (rightB l k && okN l k) = false; rw [h]; simp
  | d + 1 => by show (rightB l (k + 1 + d) && okN l (k + 1 + d)) = false; rw [right_bad h d]; rfl
theorem right_bad' {l : Nodes} {k n : Nat} (h : okN l k = false) (hk : k < n) : rightB l n = false := by
  have := right_bad h (n - (k + 1)); rwa [show k + 1 + (n - (k + 1)) = n by omega] at this
theorem okN_yes {l : Nodes} {k : Nat} (h1 : -1 ≤ l.up k) (h2 : l.up k < k) : okN l k = true := by simp [okN, h1, h2]
theorem okN_low {l : Nodes} {k : Nat} (h1 : l.up k < -1) : okN l k = false := by simp [okN]; omega
theorem okN_high {l : Nodes} {k : Nat} (h1 : (k : Int) ≤ l.up k) : okN l k = false := by simp [okN]; omega
theorem right_ok {l : Nodes} : ∀ {n : Nat}, rightB l n = true → ∀ k, k < n → -1 ≤ l.up k ∧ l.up k < k
  | 0, _, k, hk => absurd hk (Nat.not_lt_zero _)
  | n + 1, h, k, hk => by
    have h' : rightB l n = true ∧ okN l n = true := by
      have : (rightB l n && okN l n) = true := h
      simpa using this
    rcases Nat.lt_or_ge k n with h1 | h1
    · exact right_ok h'.1 k h1
    · rw [show k = n by omega]
      have := h'.2
      simpa [okN] using this
theorem kids_low {l : Nodes} {i : Int} (h : i < -1) : kidsL l i = [] := by
  unfold kidsL; refine sel_none fun j _ => ?_
  simp; omega
theorem kids_from {l : Nodes} {i : Int} (h : ¬ i < -1) : sel (fun k => decide (0 ≤ k) && decide (l.up k = i)) l.n = kidsL l i := by
  unfold kidsL; refine sel_congr fun j _ => ?_
  rw [show decide (-1 ≤ i) = true by simp; omega]; simp
theorem next_in {l : Nodes} {i : Nat} (h : i < l.n) : nextL l (i : Int) = sel (fun k => decide (i + 1 ≤ k) && decide (l.up k = l.up i)) l.n := by
  unfold nextL; rw [if_pos ⟨by omega, by omega⟩]; rfl
theorem next_out {l : Nodes} {i : Int} (h : i < 0 ∨ (l.n : Int) ≤ i) : nextL l i = [] := by unfold nextL; rw [if_neg (by omega)]
theorem up_in {l : Nodes} {i : Nat} (h : i < l.n) (h2 : 0 ≤ l.up i) : upL l (i : Int) = [l.up i] := by unfold upL; rw [if_pos ⟨by omega, by omega, h2⟩]; rfl
theorem up_no {l : Nodes} {i : Nat} (h2 : l.up i < 0) : upL l (i : Int) = [] := by unfold upL; rw [if_neg (fun h => by have : 0 ≤ l.up i := h.2.2; omega)]
theorem up_out {l : Nodes} {i : Int} (h : i < 0 ∨ (l.n : Int) ≤ i) : upL l i = [] := by unfold upL; rw [if_neg (by omega)]
theorem text_in {l : Nodes} {s : ByteArray} {i : Nat} (h : i < l.n) (h2 : max (l.fr i) 0 < min (l.tt i) s.size) : textS l s (i : Int) = s.extract (max (l.fr i) 0).toNat (min (l.tt i) s.size).toNat := by
  unfold textS; rw [if_pos ⟨by omega, by omega, h2⟩]; rfl
theorem text_no {l : Nodes} {s : ByteArray} {i : Nat} (h2 : ¬ max (l.fr i) 0 < min (l.tt i) s.size) : textS l s (i : Int) = ⟨#[]⟩ := by unfold textS; rw [if_neg (fun h => h2 h.2.2)]
theorem text_out {l : Nodes} {s : ByteArray} {i : Int} (h : i < 0 ∨ (l.n : Int) ≤ i) : textS l s i = ⟨#[]⟩ := by unfold textS; rw [if_neg (by omega)]
theorem place_of (n : Nat) (i : Int) : i < 0 ∨ (0 ≤ i ∧ (n : Int) ≤ i) ∨ ∃ j : Nat, i = (j : Int) ∧ j < n := by
  by_cases h : i < 0
  · exact .inl h
  · by_cases h2 : i < n
    · exact .inr (.inr ⟨i.toNat, by omega, by omega⟩)
    · exact .inr (.inl ⟨by omega, by omega⟩)
end Go.Proofs.Ytgpglmponbipbad
