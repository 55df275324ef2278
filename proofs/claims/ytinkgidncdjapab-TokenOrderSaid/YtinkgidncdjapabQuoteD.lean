/- A byte as it is written: the walk of the reference's letter. -/
import Derived.Test.YtinkgidncdjapabQuoteC
namespace Go.Proofs.Ytinkgidncdjapab
set_option linter.unusedVariables false
open Go.RowKit

def dgs : ByteArray := ⟨#[48, 49, 50, 51, 52, 53, 54, 55, 56, 57, 97, 98, 99, 100, 101, 102]⟩
theorem bytes_eq {s t : ByteArray} (h : s.data.toList = t.data.toList) : s = t := by
  apply ByteArray.ext
  apply Array.ext'
  exact h
theorem esc_join (c : Int) : (⟨#[92]⟩ : ByteArray) ++ strOfNums [c] = strOfNums [92, c] := by
  apply bytes_eq
  simp [strOfNums, ByteArray.data_append]
theorem hex_join {c : Int} (h0 : 0 ≤ c) (h1 : c ≤ 255) : (⟨#[92, 120]⟩ : ByteArray) ++ dgs.extract (c / 16).toNat (c / 16 + 1).toNat ++ dgs.extract (c % 16).toNat (c % 16 + 1).toNat = strOfNums [92, 120, dgv (c / 16), dgv (c % 16)] := by
  apply bytes_eq
  exact byte_cases (P := fun c => ((⟨#[92, 120]⟩ : ByteArray) ++ dgs.extract (c / 16).toNat (c / 16 + 1).toNat ++ dgs.extract (c % 16).toNat (c % 16 + 1).toNat).data.toList = (strOfNums [92, 120, dgv (c / 16), dgv (c % 16)]).data.toList) (by decide +kernel) h0 h1

end Go.Proofs.Ytinkgidncdjapab
