/- A string's bytes by their places. No program in sight. -/
import Derived.Test.YtnopnjleibbakabOwn
namespace Go.Proofs.Ytnopnjleibbakab
set_option linter.unusedVariables false
open Go.RowKit

/-- The byte at place k. -/
def byt (s : ByteArray) (k : Nat) : Int := ((s.data.toList.getD k 0).toNat : Int)
theorem byt_get {s : ByteArray} {k : Nat} (h : k < s.size) : byt s k = (s[k].toNat : Int) := by
  have h' : k < s.data.toList.length := by simpa using h
  unfold byt
  rw [List.getD_eq_getElem?_getD, List.getElem?_eq_getElem h']; rfl
theorem byt_lt (s : ByteArray) (k : Nat) : 0 ≤ byt s k ∧ byt s k ≤ 255 := by
  unfold byt; have := (s.data.toList.getD k 0).toNat_lt; omega
def ofL (l : List UInt8) : ByteArray := ⟨l.toArray⟩
theorem ofL_self (a : ByteArray) : ofL a.data.toList = a := by
  apply ByteArray.ext
  show a.data.toList.toArray = a.data
  simp
theorem ofL_take (s : ByteArray) (k : Nat) : ofL (s.data.toList.take k) = s.extract 0 k := by
  apply ByteArray.ext
  show (s.data.toList.take k).toArray = (s.extract 0 k).data
  rw [ByteArray.data_extract]
  apply Array.ext'
  simp
theorem ofL_drop (s : ByteArray) (k : Nat) : ofL (s.data.toList.drop k) = s.extract k s.size := by
  apply ByteArray.ext
  show (s.data.toList.drop k).toArray = (s.extract k s.size).data
  rw [ByteArray.data_extract]
  apply Array.ext'
  simp
  rw [List.take_of_length_le (by simp)]
end Go.Proofs.Ytnopnjleibbakab
