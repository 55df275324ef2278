/- A strings.Builder that the call itself has made: the walks of its writers. A text in quotation marks: the walks of Text, of the program's and the reference's. -/
import Derived.Test.YtihcmneidbjmlaaShelf
import Derived.Test.YtihcmneidbjmlaaChecked
import Derived.Test.YtihcmneidbjmlaaBut
import Derived.Lib.Builder
import Derived.Lib.AppendStr
import Derived.Lib.UnsafeStr
import Derived.Laws.Externs
import Derived.Handy
import Derived.KernelRfl
import Derived.Test.YtihcmneidbjmlaaGd
namespace Go.Proofs.Ytihcmneidbjmlaa
set_option linter.unusedVariables false
open Go.RowKit
theorem info_byte : (Try.prog.info? 5).map (fun i => (i.zero, i.size, i.bytes)) = some (some (.int .u8 0), 1, 1) := by kernel_rfl
theorem fresh_cells (w : World) (t : TypeId) (cs : List Value) : ∀ j u, cs[j]? = some u → (w.alloc (.cells cs.toArray t)).cell? ((⟨w.heap.size, 0, none⟩ : Addr).add j) = some u := fun j u h => by
  rw [Addr.add_lit, Nat.zero_add, (Own.fresh w t cs).cell j]; exact h
theorem byteCells_snoc (l : List UInt8) (c : UInt8) : Lib.byteCells (l ++ [c]) = Lib.byteCells l ++ [.int .u8 (c.toNat : Int)] := by simp [Lib.byteCells]
theorem byteCells_append (l : List UInt8) (s : ByteArray) : Lib.byteCells (l ++ s.data.toList) = Lib.byteCells l ++ Lib.strCells s := by simp [Lib.byteCells, Lib.strCells]
theorem own_ge {w : World} {B n : Nat} {e : TypeId} {v : Value} {xs : List Value} (h : w.ownsRow B e 1 v n xs) : ∀ k, v.ownBlock = some k → B ≤ k := fun k hk => by
  rcases h.2 with ⟨rfl, _⟩ | ⟨g, cap, cur, rfl, hg, _⟩
  · simp [Value.ownBlock] at hk
  · simp [Value.ownBlock] at hk; omega
theorem own_form {w : World} {B n : Nat} {e : TypeId} {v : Value} {xs : List Value} (h : w.ownsRow B e 1 v n xs) : ∃ ao m cap, v = .slice ao m cap := by
  rcases h.2 with ⟨rfl, _⟩ | ⟨g, cap, cur, rfl, _⟩ <;> exact ⟨_, _, _, rfl⟩
theorem byteCells_len (l : List UInt8) : (Lib.byteCells l).length = l.length := by simp [Lib.byteCells]

end Go.Proofs.Ytihcmneidbjmlaa

namespace Go.Proofs.Ytihcmneidbjmlaa
set_option linter.unusedVariables false
open Go.RowKit

theorem own_below {w w' : World} {B n : Nat} {e : TypeId} {v : Value} {xs : List Value} (h : w.ownsRow B e 1 v n xs) (hb : Below w.heap.size w w') : w'.ownsRow B e 1 v n xs := by
  refine ⟨h.1, ?_⟩
  rcases h.2 with h0 | ⟨g, cap, cur, e1, hg, hh, r⟩
  · exact .inl h0
  · exact .inr ⟨g, cap, cur, e1, hg, (hb.block g (lt_of_block hh)).trans hh, r⟩
theorem ofL_app (l : List UInt8) (t : ByteArray) : ofL l ++ t = ofL (l ++ t.data.toList) := by
  apply bytes_eq
  rw [ByteArray.data_append]
  show (l.toArray ++ t.data).toList = (l ++ t.data.toList).toArray.toList
  simp
theorem ofL_size (l : List UInt8) : (ofL l).size = l.length := by show l.toArray.size = _; simp
theorem wrS_size (sp : ByteArray) (c : Int) : (wrS sp c).size ≤ 4 := by
  unfold wrS
  split
  · rw [strOfNums_size]; simp
  · split
    · decide
    · split
      · decide
      · split
        · rw [strOfNums_size]; simp
        · rw [strOfNums_size]; simp
/-- What is written of the first k bytes. -/
def wrT (s : ByteArray) : Nat → List UInt8
  | 0 => [34]
  | k + 1 => wrT s k ++ (wrS spT (byt s k)).data.toList
theorem wrT_len (s : ByteArray) : ∀ k, (wrT s k).length ≤ 4 * k + 1
  | 0 => Nat.le_refl _
  | k + 1 => by
    have h1 := wrT_len s k
    have h2 := wrS_size spT (byt s k)
    have h3 : (wrS spT (byt s k)).data.toList.length = (wrS spT (byt s k)).size := by simp
    unfold wrT; rw [List.length_append]; omega
def textS (s : ByteArray) : ByteArray := ofL (wrT s s.size ++ [34])
theorem spT_in {c : Int} (h0 : 0 ≤ c) (h1 : c ≤ 255) (h : isSp spT c = true) : 32 ≤ c ∧ c ≤ 126 := by
  rw [isSp_T h0 h1, beq_iff_eq] at h; omega

end Go.Proofs.Ytihcmneidbjmlaa
