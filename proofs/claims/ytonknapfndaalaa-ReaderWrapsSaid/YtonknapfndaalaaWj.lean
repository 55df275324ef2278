/- What is written, within parentheses and with a note behind: the tokens, and what they are. Math alone. -/
import Derived.Test.YtonknapfndaalaaWi
namespace Go.Proofs.Ytonknapfndaalaa
set_option linter.unusedVariables false
set_option maxRecDepth 1000000
open Go.RowKit Ex
section
variable {U : ByteArray}
theorem note_end : ∀ (f k : Nat), U.size ≤ f + k → (∀ j, k ≤ j → j < U.size → byt U j ≠ 10) → U.size ≤ k + runB (fun c => c != 10) U f k
 | 0, k, h, _ => by unfold runB; omega
 | f + 1, k, h, hn => by
  unfold runB
  split
  ·
   have := note_end f (k + 1) (by omega) fun j hj => hn j (by omega)
   omega
  ·
   rename_i g
   rcases Nat.lt_or_ge k U.size with g2 | g2
   ·
    exact absurd ⟨g2, by simpa using hn k (Nat.le_refl _) g2⟩ g
   ·
    omega
/-- A note up to the end. -/
theorem skO_note {k : Nat} (hk : k < U.size) (h : byt U k = 35) (hn : ∀ j, k ≤ j → j < U.size → byt U j ≠ 10) : U.size ≤ skO U k := by
 have h1 : U.size ≤ k + ntO U k := note_end U.size k (by omega) hn
 unfold skO
 rw [skF_note (by omega) hk h, skF_out (by omega)]
 exact h1
end
end Go.Proofs.Ytonknapfndaalaa
