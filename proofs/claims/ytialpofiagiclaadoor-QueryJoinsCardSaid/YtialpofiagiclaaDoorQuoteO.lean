/- A class that stands at a place: what it is. -/
import Derived.Test.YtialpofiagiclaaDoorQuoteN
namespace Go.Proofs.YtialpofiagiclaaDoor
set_option linter.unusedVariables false
set_option maxRecDepth 1000000
open Go.RowKit

theorem rowO_bd {s : ByteArray} {k m lo hi : Nat} (h : rowO s k = some ((lo, hi), m)) : k < s.size ∧ k < m ∧ m ≤ k + 21 ∧ lo < 256 ∧ hi < 256 := by
  cases hq : sglO s k with
  | none => rw [rowO_none hq] at h; cases h
  | some p =>
    obtain ⟨c, n⟩ := p
    obtain ⟨b1, b2, b3, b4, b5⟩ := sglO_bd hq
    cases hd : standB s (n : Int) 45 with
    | false =>
      rw [rowO_one hq hd] at h
      injection h with h; injection h with h1 h2; injection h1 with h3 h4
      omega
    | true =>
      rw [rowO_two hq hd] at h
      cases hr : sglO s (n + 1) with
      | none => rw [hr] at h; cases h
      | some p =>
        obtain ⟨c', n'⟩ := p
        obtain ⟨d1, d2, d3, d4, d5⟩ := sglO_bd hr
        rw [hr] at h
        simp only at h
        split at h
        · cases h
        · injection h with h; injection h with h1 h2; injection h1 with h3 h4
          omega
/-- A ] is no row. -/
theorem rowO_close {s : ByteArray} {k : Nat} (h : standB s (k : Int) 93 = true) : rowO s k = none := by
  obtain ⟨h1, h2⟩ := stand_iff.1 h
  apply rowO_none
  apply sglO_none
  rw [readO_at h1 h2, if_neg (by decide), if_neg (by decide)]
abbrev Set4 := Nat × Nat × Nat × Nat
def orR (x : Set4) (lo hi : Nat) : Set4 := (x.1 ||| rowW 0 lo (hi + 1), x.2.1 ||| rowW 1 lo (hi + 1), x.2.2.1 ||| rowW 2 lo (hi + 1), x.2.2.2 ||| rowW 3 lo (hi + 1))
/-- The rows of a class from a place on, one at least, up to a ]. -/
def rwsF (s : ByteArray) : Nat → Nat → Set4 → Option (Set4 × Nat)
  | 0, _, _ => none
  | f + 1, k, x =>
    match rowO s k with
    | none => none
    | some ((lo, hi), m) => if standB s (m : Int) 93 = true then some (orR x lo hi, m) else rwsF s f m (orR x lo hi)
theorem rwsF_no {s : ByteArray} {f k : Nat} {x : Set4} (h : rowO s k = none) : rwsF s f k x = none := by
  cases f
  · rfl
  · unfold rwsF; rw [h]
theorem rwsF_go {s : ByteArray} {f k m lo hi : Nat} {x : Set4} (hf : s.size < f + k) (h : rowO s k = some ((lo, hi), m)) :
    rwsF s f k x = if standB s (m : Int) 93 = true then some (orR x lo hi, m) else rwsF s (f - 1) m (orR x lo hi) := by
  have hk := (rowO_bd h).1
  obtain ⟨g, rfl⟩ : ∃ g, f = g + 1 := ⟨f - 1, by omega⟩
  rw [rwsF.eq_2, h]; rfl
end Go.Proofs.YtialpofiagiclaaDoor
