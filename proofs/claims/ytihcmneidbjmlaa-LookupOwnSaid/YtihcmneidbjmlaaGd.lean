/- A byte as it is written: the walks of written and letter. A byte as it is written: the walk of the reference's letter. -/
import Derived.Test.YtihcmneidbjmlaaGb
import Derived.Test.YtihcmneidbjmlaaGc
import Derived.StillTailTactics
namespace Go.Proofs.Ytihcmneidbjmlaa
set_option linter.unusedVariables false
open Go.RowKit

def dgv (d : Int) : Int := if d < 10 then 48 + d else 87 + d
/-- A byte as it is written. -/
def wrS (sp : ByteArray) (c : Int) : ByteArray :=
  if plainB sp c = true then strOfNums [c] else if c = 10 then ⟨#[92, 110]⟩ else if c = 9 then ⟨#[92, 116]⟩
  else if (c == 92 || isSp sp c) = true then strOfNums [92, c] else strOfNums [92, 120, dgv (c / 16), dgv (c % 16)]
theorem dg_at (d : Int) (h0 : 0 ≤ d) (h1 : d < 16) (hp : d.toNat < (⟨#[48, 49, 50, 51, 52, 53, 54, 55, 56, 57, 97, 98, 99, 100, 101, 102]⟩ : ByteArray).size) :
    (((⟨#[48, 49, 50, 51, 52, 53, 54, 55, 56, 57, 97, 98, 99, 100, 101, 102]⟩ : ByteArray)[d.toNat]'hp).toNat : Int) = dgv d := by
  have key : ∀ x : Fin 16, ∀ hx : x.val < (⟨#[48, 49, 50, 51, 52, 53, 54, 55, 56, 57, 97, 98, 99, 100, 101, 102]⟩ : ByteArray).size, (((⟨#[48, 49, 50, 51, 52, 53, 54, 55, 56, 57, 97, 98, 99, 100, 101, 102]⟩ : ByteArray)[x.val]'hx).toNat : Int) = dgv (x.val : Int) := by decide +kernel
  have h := key ⟨d.toNat, by omega⟩ hp
  rw [show ((d.toNat : Nat) : Int) = d by omega] at h
  exact h
theorem ret_str {a b : ByteArray} (h : a = b) : Ending.returned (.string a) = .returned (.string b) := by rw [h]

end Go.Proofs.Ytihcmneidbjmlaa

namespace Go.Proofs.Ytihcmneidbjmlaa
set_option linter.unusedVariables false
open Go.RowKit

def dgs : ByteArray := ⟨#[48, 49, 50, 51, 52, 53, 54, 55, 56, 57, 97, 98, 99, 100, 101, 102]⟩
theorem bytes_eq {s t : ByteArray} (h : s.data.toList = t.data.toList) : s = t := by
  apply ByteArray.ext
  apply Array.ext'
  exact h
theorem esc_join (c : Int) : (⟨#[92]⟩ : ByteArray) ++ strOfNums [c] = strOfNums [92, c] := by
  apply bytes_eq
  simp [strOfNums, ByteArray.data_append]
theorem hex_join {c : Int} (h0 : 0 ≤ c) (h1 : c ≤ 255) : (⟨#[92, 120]⟩ : ByteArray) ++ dgs.extract (c / 16).toNat (c / 16 + 1).toNat ++ dgs.extract (c % 16).toNat (c % 16 + 1).toNat = strOfNums [92, 120, dgv (c / 16), dgv (c % 16)] := by
  apply bytes_eq
  exact byte_cases (P := fun c => ((⟨#[92, 120]⟩ : ByteArray) ++ dgs.extract (c / 16).toNat (c / 16 + 1).toNat ++ dgs.extract (c % 16).toNat (c % 16 + 1).toNat).data.toList = (strOfNums [92, 120, dgv (c / 16), dgv (c % 16)]).data.toList) (by decide +kernel) h0 h1

end Go.Proofs.Ytihcmneidbjmlaa
