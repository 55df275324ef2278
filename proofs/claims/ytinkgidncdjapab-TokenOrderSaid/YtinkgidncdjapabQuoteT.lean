/- A text in quotation marks: the walks of Text, of the program's and the reference's. -/
import Derived.Test.YtinkgidncdjapabQuoteD
import Derived.Test.YtinkgidncdjapabBuild
namespace Go.Proofs.Ytinkgidncdjapab
set_option linter.unusedVariables false
open Go.RowKit

theorem own_below {w w' : World} {B n : Nat} {e : TypeId} {v : Value} {xs : List Value} (h : w.ownsRow B e 1 v n xs) (hb : Below w.heap.size w w') : w'.ownsRow B e 1 v n xs := by
  refine ⟨h.1, ?_⟩
  rcases h.2 with h0 | ⟨g, cap, cur, e1, hg, hh, r⟩
  · exact .inl h0
  · exact .inr ⟨g, cap, cur, e1, hg, (hb.block g (lt_of_block hh)).trans hh, r⟩
theorem ofL_app (l : List UInt8) (t : ByteArray) : ofL l ++ t = ofL (l ++ t.data.toList) := by
  apply bytes_eq
  rw [ByteArray.data_append]
  show (l.toArray ++ t.data).toList = (l ++ t.data.toList).toArray.toList
  simp
theorem ofL_size (l : List UInt8) : (ofL l).size = l.length := by show l.toArray.size = _; simp
theorem wrS_size (sp : ByteArray) (c : Int) : (wrS sp c).size ≤ 4 := by
  unfold wrS
  split
  · rw [strOfNums_size]; simp
  · split
    · decide
    · split
      · decide
      · split
        · rw [strOfNums_size]; simp
        · rw [strOfNums_size]; simp
/-- What is written of the first k bytes. -/
def wrT (s : ByteArray) : Nat → List UInt8
  | 0 => [34]
  | k + 1 => wrT s k ++ (wrS spT (byt s k)).data.toList
theorem wrT_len (s : ByteArray) : ∀ k, (wrT s k).length ≤ 4 * k + 1
  | 0 => Nat.le_refl _
  | k + 1 => by
    have h1 := wrT_len s k
    have h2 := wrS_size spT (byt s k)
    have h3 : (wrS spT (byt s k)).data.toList.length = (wrS spT (byt s k)).size := by simp
    unfold wrT; rw [List.length_append]; omega
def textS (s : ByteArray) : ByteArray := ofL (wrT s s.size ++ [34])
theorem spT_in {c : Int} (h0 : 0 ≤ c) (h1 : c ≤ 255) (h : isSp spT c = true) : 32 ≤ c ∧ c ≤ 126 := by
  rw [isSp_T h0 h1, beq_iff_eq] at h; omega

end Go.Proofs.Ytinkgidncdjapab
