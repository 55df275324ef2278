/- References: the walks of Split, of the program's and the reference's. -/
import Derived.Test.YtinkgidncdjapacWordR
import Derived.Test.YtinkgidncdjapacShelf
import Derived.Lib.IndexMore
import Derived.ShutString
import Derived.Shelf.Vars
namespace Go.Proofs.Ytinkgidncdjapac
set_option linter.unusedVariables false
open Go.RowKit Go.Sort

/-- The library's variable holds some number. -/
def Mx (w : World) : Prop := ∃ m : Int, w.cell? ⟨0, 0, none⟩ = some (.int .i64 m)
theorem Mx.below {w w' : World} (h : Mx w) (hb : Below w.heap.size w w') : Mx w' := by obtain ⟨m, hm⟩ := h; exact ⟨m, keepc hm hb⟩
def ofL (l : List UInt8) : ByteArray := ⟨l.toArray⟩
def cutS (s : ByteArray) : List UInt8 × List UInt8 × Bool := Lib.cut s.data.toList [58, 58]
def splitM (s : ByteArray) : ByteArray := if (cutS s).2.2 = true then ofL (cutS s).1 else ofL []
def splitR (s : ByteArray) : ByteArray := if (cutS s).2.2 = true then ofL (cutS s).2.1 else s
def splitB (s : ByteArray) : Bool := if (cutS s).2.2 = true then wordB (ofL (cutS s).1) && wordB (ofL (cutS s).2.1) else wordB s

set_option maxHeartbeats 1600000 in
theorem split_any (s : ByteArray) (hs : s.size ≤ 1000000) (w : World) (hm : Mx w) : Calls Try.prog 8 #[.string s] w
    fun e w' => e = .returned (.tuple #[.string (splitM s), .string (splitR s), .bool (splitB s)]) ∧ Below w.heap.size w w' := by
  obtain ⟨m, hm⟩ := hm
  have HM := Lib.hid hm
  clear hm
  have hl1 : (cutS s).1.length ≤ s.size ∧ (cutS s).2.1.length ≤ s.size := by
    unfold cutS Lib.cut; split <;> simp <;> omega
  have HC := Lib.hid (show cutS s = Lib.cut s.data.toList [58, 58] from rfl)
  have HSM := Lib.hid (show splitM s = if (cutS s).2.2 = true then ofL (cutS s).1 else ofL [] from rfl)
  have HSR := Lib.hid (show splitR s = if (cutS s).2.2 = true then ofL (cutS s).2.1 else s from rfl)
  have HSB := Lib.hid (show splitB s = if (cutS s).2.2 = true then wordB (ofL (cutS s).1) && wordB (ofL (cutS s).2.1) else wordB s from rfl)
  have K := Lib.hid (fun W hW => Try.strings_Cut s ⟨#[58, 58]⟩ m W (by omega) hW)
  obtain ⟨x, y, b, hc⟩ : ∃ x y b, cutS s = (x, y, b) := ⟨_, _, _, rfl⟩
  rw [hc] at HSM HSR HSB HC hl1
  simp only at HSM HSR HSB hl1
  have hx : (ofL x).size ≤ maxLen := by show x.toArray.size ≤ _; simp [maxLen]; omega
  have hy : (ofL y).size ≤ maxLen := by show y.toArray.size ≤ _; simp [maxLen]; omega
  have hs2 : s.size ≤ maxLen := by unfold maxLen; omega
  have HX := Lib.hid hx
  have HY := Lib.hid hy
  have HS := Lib.hid hs2
  clear hx hy hs2 hc hl1
  go_enter Try.func8, Try.ntmps8
  go_wp2_with fail
  refine (K.out _ HM.out).mono ?_
  rintro e w1 ⟨rfl, nq, rfl⟩
  rw [show Lib.cut s.data.toList ([58, 58] : List UInt8) = (x, y, b) from HC.out.symm]
  cases b
  · go_wp2_with fail
    refine (word_any s HS.out _).mono ?_
    rintro e w1 ⟨rfl, rfl⟩
    go_wp2
    go_ret3
    exact ⟨by rw [HSM.out, HSR.out, HSB.out]; rfl, below_drewN (Below.refl _ _) nq⟩
  · obtain ⟨bx, hbx⟩ : ∃ bx, wordB (ofL x) = bx := ⟨_, rfl⟩
    have HBX := Lib.hid hbx
    clear hbx
    cases bx
    · go_wp2_with fail
      refine (word_any (ofL x) HX.out _).mono ?_
      rintro e w1 ⟨rfl, rfl⟩
      rw [HBX.out]
      go_wp2
      go_ret3
      exact ⟨by rw [HSM.out, HSR.out, HSB.out, HBX.out]; rfl, below_drewN (Below.refl _ _) nq⟩
    · go_wp2_with fail
      refine (word_any (ofL x) HX.out _).mono ?_
      rintro e w1 ⟨rfl, rfl⟩
      rw [HBX.out]
      go_wp2_with fail
      refine (word_any (ofL y) HY.out _).mono ?_
      rintro e w1 ⟨rfl, rfl⟩
      go_wp2
      go_ret3
      exact ⟨by rw [HSM.out, HSR.out, HSB.out, HBX.out]; rfl, below_drewN (Below.refl _ _) nq⟩
end Go.Proofs.Ytinkgidncdjapac
