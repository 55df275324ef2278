/- Bytes as they are written: the walks of stands, plain, hex, of the program's and the reference's. Digits of base sixteen: the walks of the reference's plain and hex, of the program's number. -/
import Derived.Test.YtonknapfndaalaaShelf
import Derived.Test.YtonknapfndaalaaChecked
import Derived.Test.YtonknapfndaalaaGa
import Derived.WalkLawsBesides
import Derived.Handy
import Derived.KernelRfl
import Derived.BigQuiet
import Derived.Lib.IndexLaws
namespace Go.Proofs.Ytonknapfndaalaa
set_option linter.unusedVariables false
set_option maxRecDepth 1000000
open Go.RowKit
def spT : ByteArray := ⟨#[34]⟩
def spC : ByteArray := ⟨#[91, 93, 94, 45]⟩
/-- Is c one of sp? -/
def isSp (sp : ByteArray) (c : Int) : Bool := decide (0 ≤ Lib.indexByte sp.data.toList c.toNat.toUInt8)
def plainB (sp : ByteArray) (c : Int) : Bool := decide (32 ≤ c) && decide (c ≤ 126) && (c != 92) && !(isSp sp c)
theorem byte_cases {P : Int → Prop} (h : ∀ x : Fin 256, P (x.val : Int)) {c : Int} (h0 : 0 ≤ c) (h1 : c ≤ 255) : P c := by
 have := h ⟨c.toNat, by omega⟩
 simpa [Int.toNat_of_nonneg h0] using this
theorem isSp_T {c : Int} (h0 : 0 ≤ c) (h1 : c ≤ 255) : isSp spT c = (c == 34) :=
 byte_cases (P := fun c => isSp spT c = (c == 34)) (by decide +kernel) h0 h1
/-- Does the byte c stand at that place? -/
def standB (s : ByteArray) (i c : Int) : Bool := decide (0 ≤ i) && decide (i < (s.size : Int)) && byt s i.toNat == c
set_option maxHeartbeats 800000 in
theorem plain_any (sp : ByteArray) (c : Int) (w : World) : Calls Try.prog 56 #[.int .u8 c, .string sp] w fun e w' => e = .returned (.bool (plainB sp c)) ∧ w' = w := by
 have HS := Lib.hid (show plainB sp c = (decide (32 ≤ c) && decide (c ≤ 126) && (c != 92) && !(isSp sp c)) from rfl)
 obtain ⟨x, hx⟩ : ∃ x, Lib.indexByte sp.data.toList c.toNat.toUInt8 = x := ⟨_, rfl⟩
 have HI := Lib.hid (show isSp sp c = decide (0 ≤ x) by unfold isSp; rw [hx])
 have HX := Lib.hid hx
 clear hx
 by_cases h0 : 32 ≤ c
 ·
  by_cases h1 : c ≤ 126
  ·
   obtain ⟨b, hb⟩ : ∃ b, (c != 92) = b := ⟨_, rfl⟩
   cases b
   ·
    go_enter Try.func56, Try.ntmps56
    go_wp2
    go_ret
    exact ⟨ret_bool (by rw [HS.out, hb]; simp), rfl⟩
   ·
    have HB := Lib.hid hb
    go_enter Try.func56, Try.ntmps56
    go_wp2_with fail
    refine (Try.strings_IndexByte sp c _).mono ?_
    rintro e w' ⟨rfl, rfl⟩
    rw [HX.out]
    go_wp2
    go_ret
    exact ⟨ret_bool (by rw [HS.out, HI.out, HB.out, decide_eq_true h0, decide_eq_true h1]; simp; rw [Bool.eq_iff_iff]; simp), rfl⟩
  ·
   go_enter Try.func56, Try.ntmps56
   go_wp2
   go_ret
   exact ⟨ret_bool (by rw [HS.out, decide_eq_false (by omega : ¬ c ≤ 126)]; simp), rfl⟩
 ·
  go_enter Try.func56, Try.ntmps56
  go_wp2
  go_ret
  exact ⟨ret_bool (by rw [HS.out, decide_eq_false (by omega : ¬ 32 ≤ c)]; simp), rfl⟩
end Go.Proofs.Ytonknapfndaalaa

namespace Go.Proofs.Ytonknapfndaalaa
set_option linter.unusedVariables false
set_option maxRecDepth 1000000
open Go.RowKit
/-- A digit's number; -1: it is none. -/
def hexV (c : Int) : Int := if 48 ≤ c ∧ c ≤ 57 then c - 48 else if 97 ≤ c ∧ c ≤ 102 then c - 87 else -1
/-- How many digits stand from a on, m at most. -/
def hexN (s : ByteArray) (a : Nat) : Nat → Nat
 | 0 => 0
 | m + 1 => if hexN s a m = m ∧ a + m < s.size ∧ 0 ≤ hexV (byt s (a + m)) then m + 1 else hexN s a m
/-- The number that the first k bytes from a on are. -/
def valN (s : ByteArray) (a : Nat) : Nat → Int
 | 0 => 0
 | k + 1 => valN s a k * 16 + hexV (byt s (a + k))
theorem hexN_le (s : ByteArray) (a : Nat) : ∀ m, hexN s a m ≤ m
 | 0 => Nat.le_refl _
 | m + 1 => by unfold hexN; split; exact Nat.le_refl _; have := hexN_le s a m; omega
end Go.Proofs.Ytonknapfndaalaa
