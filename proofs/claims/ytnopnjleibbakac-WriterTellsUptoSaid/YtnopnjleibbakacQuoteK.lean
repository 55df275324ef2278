/- A class as it is written: what it says. -/
import Derived.Test.YtnopnjleibbakacQuoteT
import Derived.Test.YtnopnjleibbakacRef01
import Derived.Test.YtnopnjleibbakacAlpha
namespace Go.Proofs.Ytnopnjleibbakac
set_option linter.unusedVariables false
open Go.RowKit

/-- The row's end: as far as the next byte is in h. -/
def runTo (h : Nat → Bool) : Nat → Nat → Nat
  | 0, k => k
  | f + 1, k => if k < 255 ∧ h (k + 1) = true then runTo h f (k + 1) else k
theorem runTo_ge (h : Nat → Bool) : ∀ f k, k ≤ runTo h f k
  | 0, k => Nat.le_refl _
  | f + 1, k => by unfold runTo; split <;> (try have := runTo_ge h f (k + 1)) <;> omega
theorem runTo_le (h : Nat → Bool) : ∀ f k, k ≤ 255 → runTo h f k ≤ 255
  | 0, k => id
  | f + 1, k => fun hk => by
    unfold runTo; split
    · rename_i g; exact runTo_le h f (k + 1) (by omega)
    · exact hk
theorem runTo_step {h : Nat → Bool} {f k : Nat} (h1 : k < 255) (h2 : h (k + 1) = true) : runTo h (f + 1) k = runTo h f (k + 1) := by
  show (if k < 255 ∧ h (k + 1) = true then _ else _) = _; rw [if_pos ⟨h1, h2⟩]
theorem runTo_stop {h : Nat → Bool} {k : Nat} (f : Nat) (hk : ¬ (k < 255 ∧ h (k + 1) = true)) : runTo h f k = k := by
  cases f
  · rfl
  · show (if k < 255 ∧ h (k + 1) = true then _ else _) = _; rw [if_neg hk]
def rowS (lo hi : Nat) : List UInt8 := (wrS spC lo).data.toList ++ ((if lo + 1 < hi then [45] else []) ++ (if lo < hi then (wrS spC hi).data.toList else []))
theorem wr_len (sp : ByteArray) (c : Int) : (wrS sp c).data.toList.length ≤ 4 := by
  have h2 := wrS_size sp c
  have h3 : (wrS sp c).data.toList.length = (wrS sp c).size := by simp
  omega
theorem rowS_len (lo hi : Nat) : (rowS lo hi).length ≤ 9 := by
  have h1 := wr_len spC lo
  have h2 := wr_len spC hi
  unfold rowS
  rw [List.length_append, List.length_append]
  split <;> split <;> simp only [List.length_cons, List.length_nil] <;> omega
/-- The rows from a byte on. -/
def clsF (h : Nat → Bool) : Nat → Nat → List UInt8
  | 0, _ => []
  | f + 1, low => if low < 256 then (if h low = true then rowS low (runTo h 255 low) ++ clsF h f (runTo h 255 low + 1) else clsF h f (low + 1)) else []
theorem clsF_len (h : Nat → Bool) : ∀ f low, (clsF h f low).length ≤ 9 * f
  | 0, _ => Nat.le_refl _
  | f + 1, low => by
    unfold clsF
    split
    · split
      · have h1 := rowS_len low (runTo h 255 low)
        have h2 := clsF_len h f (runTo h 255 low + 1)
        rw [List.length_append]; omega
      · have h2 := clsF_len h f (low + 1); omega
    · simp
theorem clsF_in {h : Nat → Bool} {f low : Nat} (h1 : low < 256) (h2 : h low = true) : clsF h (f + 1) low = rowS low (runTo h 255 low) ++ clsF h f (runTo h 255 low + 1) := by
  show (if low < 256 then (if h low = true then _ else _) else _) = _; rw [if_pos h1, if_pos h2]
theorem clsF_out {h : Nat → Bool} {f low : Nat} (h1 : low < 256) (h2 : h low = false) : clsF h (f + 1) low = clsF h f (low + 1) := by
  show (if low < 256 then (if h low = true then _ else _) else _) = _; rw [if_pos h1, if_neg (by rw [h2]; decide)]
theorem clsF_end (h : Nat → Bool) (f : Nat) {low : Nat} (h1 : ¬ low < 256) : clsF h f low = [] := by
  cases f
  · rfl
  · show (if low < 256 then (if h low = true then _ else _) else _) = _; rw [if_neg h1]
def clsL (h : Nat → Bool) : List UInt8 := [91] ++ clsF h 257 0
theorem clsL_len (h : Nat → Bool) : (clsL h).length ≤ 2400 := by
  have := clsF_len h 257 0
  unfold clsL; rw [List.length_append]; simp only [List.length_cons, List.length_nil]; omega
def classS (h : Nat → Bool) : ByteArray := ofL (clsL h ++ [93])
theorem spC_in {c : Int} (h0 : 0 ≤ c) (h1 : c ≤ 255) (h : isSp spC c = true) : 32 ≤ c ∧ c ≤ 126 := by
  rw [isSp_C h0 h1] at h; simp at h; omega
/-- One row more. -/
theorem cls_step {h : Nat → Bool} {acc tot : List UInt8} {f low : Nat} (ht : acc ++ clsF h f low = tot) (hf : 256 < f + low) (h1 : low < 256) (h2 : h low = true) :
    (acc ++ rowS low (runTo h 255 low)) ++ clsF h (f - 1) (runTo h 255 low + 1) = tot := by
  obtain ⟨g, rfl⟩ : ∃ g, f = g + 1 := ⟨f - 1, by omega⟩
  rw [clsF_in h1 h2, ← List.append_assoc] at ht
  exact ht
theorem cls_skip {h : Nat → Bool} {acc tot : List UInt8} {f low : Nat} (ht : acc ++ clsF h f low = tot) (hf : 256 < f + low) (h1 : low < 256) (h2 : h low = false) :
    acc ++ clsF h (f - 1) (low + 1) = tot := by
  obtain ⟨g, rfl⟩ : ∃ g, f = g + 1 := ⟨f - 1, by omega⟩
  rw [clsF_out h1 h2] at ht
  exact ht
theorem cls_stop {h : Nat → Bool} {acc tot : List UInt8} {f low : Nat} (ht : acc ++ clsF h f low = tot) (h1 : ¬ low < 256) : acc = tot := by
  rw [clsF_end h f h1, List.append_nil] at ht; exact ht
theorem row3 (acc : List UInt8) {lo hi : Nat} (h : lo + 1 < hi) : ofL acc ++ wrS spC lo ++ ⟨#[45]⟩ ++ wrS spC hi = ofL (acc ++ rowS lo hi) := by
  rw [ofL_app, ofL_app, ofL_app]; unfold rowS; rw [if_pos h, if_pos (by omega)]; simp [List.append_assoc]
theorem row2 (acc : List UInt8) {lo hi : Nat} (h : ¬ lo + 1 < hi) (h2 : lo < hi) : ofL acc ++ wrS spC lo ++ wrS spC hi = ofL (acc ++ rowS lo hi) := by
  rw [ofL_app, ofL_app]; unfold rowS; rw [if_neg h, if_pos h2]; simp [List.append_assoc]
theorem row1 (acc : List UInt8) {lo hi : Nat} (h2 : ¬ lo < hi) : ofL acc ++ wrS spC lo = ofL (acc ++ rowS lo hi) := by
  rw [ofL_app]; unfold rowS; rw [if_neg (by omega), if_neg h2]; simp
theorem acc_le {h : Nat → Bool} {acc tot : List UInt8} {f low : Nat} (ht : acc ++ clsF h f low = tot) (hl : tot.length ≤ 2400) : acc.length ≤ 2400 := by
  rw [← ht, List.length_append] at hl; omega
end Go.Proofs.Ytnopnjleibbakac
