/- Bytes as they are written: the walks of stands, plain, hex, of the program's and the reference's. -/
import Derived.Test.YtnopnjleibbakacShelf
import Derived.Test.YtnopnjleibbakacChecked
import Derived.Test.YtnopnjleibbakacByt
import Derived.Test.YtnopnjleibbakacQuiet
import Derived.WalkLawsBesides
import Derived.Handy
import Derived.KernelRfl
import Derived.BigQuiet
namespace Go.Proofs.Ytnopnjleibbakac
set_option linter.unusedVariables false
open Go.RowKit

def spT : ByteArray := ⟨#[34]⟩
def spC : ByteArray := ⟨#[91, 93, 94, 45]⟩
/-- Is c one of sp? -/
def isSp (sp : ByteArray) (c : Int) : Bool := decide (0 ≤ Lib.indexByte sp.data.toList c.toNat.toUInt8)
def plainB (sp : ByteArray) (c : Int) : Bool := decide (32 ≤ c) && decide (c ≤ 126) && (c != 92) && !(isSp sp c)
theorem byte_cases {P : Int → Prop} (h : ∀ x : Fin 256, P (x.val : Int)) {c : Int} (h0 : 0 ≤ c) (h1 : c ≤ 255) : P c := by
  have := h ⟨c.toNat, by omega⟩
  simpa [Int.toNat_of_nonneg h0] using this
theorem isSp_T {c : Int} (h0 : 0 ≤ c) (h1 : c ≤ 255) : isSp spT c = (c == 34) :=
  byte_cases (P := fun c => isSp spT c = (c == 34)) (by decide +kernel) h0 h1
theorem isSp_C {c : Int} (h0 : 0 ≤ c) (h1 : c ≤ 255) : isSp spC c = (c == 91 || c == 93 || c == 94 || c == 45) :=
  byte_cases (P := fun c => isSp spC c = (c == 91 || c == 93 || c == 94 || c == 45)) (by decide +kernel) h0 h1
/-- Does the byte c stand at that place? -/
def standB (s : ByteArray) (i c : Int) : Bool := decide (0 ≤ i) && decide (i < (s.size : Int)) && byt s i.toNat == c

set_option maxHeartbeats 800000 in
theorem plain_any (sp : ByteArray) (c : Int) (w : World) : Calls Try.prog 25 #[.int .u8 c, .string sp] w fun e w' => e = .returned (.bool (plainB sp c)) ∧ w' = w := by
  have HS := Lib.hid (show plainB sp c = (decide (32 ≤ c) && decide (c ≤ 126) && (c != 92) && !(isSp sp c)) from rfl)
  obtain ⟨x, hx⟩ : ∃ x, Lib.indexByte sp.data.toList c.toNat.toUInt8 = x := ⟨_, rfl⟩
  have HI := Lib.hid (show isSp sp c = decide (0 ≤ x) by unfold isSp; rw [hx])
  have HX := Lib.hid hx
  clear hx
  by_cases h0 : 32 ≤ c
  · by_cases h1 : c ≤ 126
    · obtain ⟨b, hb⟩ : ∃ b, (c != 92) = b := ⟨_, rfl⟩
      cases b
      · go_enter Try.func25, Try.ntmps25
        go_wp2
        go_ret
        exact ⟨ret_bool (by rw [HS.out, hb]; simp), rfl⟩
      · have HB := Lib.hid hb
        go_enter Try.func25, Try.ntmps25
        go_wp2_with fail
        refine (Try.strings_IndexByte sp c _).mono ?_
        rintro e w' ⟨rfl, rfl⟩
        rw [HX.out]
        go_wp2
        go_ret
        exact ⟨ret_bool (by rw [HS.out, HI.out, HB.out, decide_eq_true h0, decide_eq_true h1]; simp; rw [Bool.eq_iff_iff]; simp), rfl⟩
    · go_enter Try.func25, Try.ntmps25
      go_wp2
      go_ret
      exact ⟨ret_bool (by rw [HS.out, decide_eq_false (by omega : ¬ c ≤ 126)]; simp), rfl⟩
  · go_enter Try.func25, Try.ntmps25
    go_wp2
    go_ret
    exact ⟨ret_bool (by rw [HS.out, decide_eq_false (by omega : ¬ 32 ≤ c)]; simp), rfl⟩
end Go.Proofs.Ytnopnjleibbakac
