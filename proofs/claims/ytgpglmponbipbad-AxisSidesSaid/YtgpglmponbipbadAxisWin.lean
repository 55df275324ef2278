/- Which nodes are in one, at any depth. No function in sight. -/
import Derived.Test.YtgpglmponbipbadAxisSpec
namespace Go.Proofs.Ytgpglmponbipbad
set_option linter.unusedVariables false
open Go.RowKit

def win (l : Nodes) (i : Int) : Nat → Nat → Bool
  | 0, _ => false
  | f + 1, k => decide (l.up k = i) || (decide (0 ≤ l.up k) && win l i f (l.up k).toNat)
def inB (l : Nodes) (i : Int) (k : Nat) : Bool := win l i (k + 1) k
theorem win_fuel {l : Nodes} {i : Int} {n : Nat} (hr : rightB l n = true) : ∀ (b k : Nat), k ≤ b → k < n → ∀ f g, k < f → k < g → win l i f k = win l i g k := by
  intro b
  induction b with
  | zero =>
    intro k hb hk f g hf hg
    obtain ⟨f, rfl⟩ : ∃ f', f = f' + 1 := ⟨f - 1, by omega⟩
    obtain ⟨g, rfl⟩ : ∃ g', g = g' + 1 := ⟨g - 1, by omega⟩
    have h := right_ok hr k hk
    have e : decide (0 ≤ l.up k) = false := by simp; omega
    show (decide (l.up k = i) || (decide (0 ≤ l.up k) && win l i f (l.up k).toNat)) = (decide (l.up k = i) || (decide (0 ≤ l.up k) && win l i g (l.up k).toNat))
    rw [e]; rfl
  | succ b ih =>
    intro k hb hk f g hf hg
    obtain ⟨f, rfl⟩ : ∃ f', f = f' + 1 := ⟨f - 1, by omega⟩
    obtain ⟨g, rfl⟩ : ∃ g', g = g' + 1 := ⟨g - 1, by omega⟩
    have h := right_ok hr k hk
    show (decide (l.up k = i) || (decide (0 ≤ l.up k) && win l i f (l.up k).toNat)) = (decide (l.up k = i) || (decide (0 ≤ l.up k) && win l i g (l.up k).toNat))
    by_cases h0 : 0 ≤ l.up k
    · rw [ih (l.up k).toNat (by omega) (by omega) f g (by omega) (by omega)]
    · rw [show decide (0 ≤ l.up k) = false by simpa using h0]; rfl
theorem in_step {l : Nodes} {i : Int} {n k : Nat} (hr : rightB l n = true) (hk : k < n) : inB l i k = (decide (l.up k = i) || (decide (0 ≤ l.up k) && inB l i (l.up k).toNat)) := by
  have h := right_ok hr k hk
  show (decide (l.up k = i) || (decide (0 ≤ l.up k) && win l i k (l.up k).toNat)) = _
  by_cases h0 : 0 ≤ l.up k
  · rw [win_fuel hr k (l.up k).toNat (by omega) (by omega) k ((l.up k).toNat + 1) (by omega) (by omega)]; rfl
  · rw [show decide (0 ≤ l.up k) = false by simpa using h0]; rfl
theorem in_yes {l : Nodes} {i : Int} {n k : Nat} (hr : rightB l n = true) (hk : k < n) (h : l.up k = i) : inB l i k = true := by rw [in_step hr hk, show decide (l.up k = i) = true by simpa using h]; rfl
theorem in_next {l : Nodes} {i : Int} {n k : Nat} (hr : rightB l n = true) (hk : k < n) (h : ¬ l.up k = i) (h0 : 0 ≤ l.up k) : inB l i k = inB l i (l.up k).toNat := by
  rw [in_step hr hk, show decide (l.up k = i) = false by simpa using h, show decide (0 ≤ l.up k) = true by simpa using h0]; simp
theorem in_top {l : Nodes} {i : Int} {n k : Nat} (hr : rightB l n = true) (hk : k < n) (h : ¬ l.up k = i) (h0 : ¬ 0 ≤ l.up k) : inB l i k = false := by
  rw [in_step hr hk, show decide (l.up k = i) = false by simpa using h, show decide (0 ≤ l.up k) = false by simpa using h0]; rfl
/-- What is in a node stands behind it. -/
theorem in_behind {l : Nodes} {i : Int} {n : Nat} (hr : rightB l n = true) : ∀ (b k : Nat), k ≤ b → k < n → (k : Int) ≤ i → inB l i k = false := by
  intro b
  induction b with
  | zero =>
    intro k hb hk hi
    have h := right_ok hr k hk
    exact in_top hr hk (by omega) (by omega)
  | succ b ih =>
    intro k hb hk hi
    have h := right_ok hr k hk
    by_cases h0 : 0 ≤ l.up k
    · rw [in_next hr hk (by omega) h0]
      exact ih _ (by omega) (by omega) (by omega)
    · exact in_top hr hk (by omega) h0
def belowL (l : Nodes) (i : Int) : List Int := if rightB l l.n = true ∧ -1 ≤ i then sel (inB l i) l.n else []
theorem below_no {l : Nodes} {i : Int} (h : rightB l l.n = false) : belowL l i = [] := by unfold belowL; rw [if_neg (fun h2 => by rw [h] at h2; cases h2.1)]
theorem below_low {l : Nodes} {i : Int} (h : i < -1) : belowL l i = [] := by unfold belowL; rw [if_neg (by omega)]
theorem below_yes {l : Nodes} {i : Int} (h : rightB l l.n = true) (hi : ¬ i < -1) : belowL l i = sel (inB l i) l.n := by unfold belowL; rw [if_pos ⟨h, by omega⟩]
theorem below_high {l : Nodes} {i : Int} (h : (l.n : Int) ≤ i) : belowL l i = [] := by
  cases hr : rightB l l.n with
  | false => exact below_no hr
  | true => rw [below_yes hr (by omega)]; exact sel_none fun j hj => in_behind hr j j (Nat.le_refl _) hj (by omega)
end Go.Proofs.Ytgpglmponbipbad
