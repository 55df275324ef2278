/- References: the walks of Split, of the program's and the reference's. References: the walk of the reference's Split. -/
import Derived.Test.YtonknapfndaalaaGl
import Derived.Test.YtonknapfndaalaaShelf
import Derived.Lib.IndexMore
import Derived.ShutString
import Derived.Lib.IndexBytes
import Derived.Deep.Cut
namespace Go.Proofs.Ytonknapfndaalaa
set_option linter.unusedVariables false
set_option maxRecDepth 1000000
open Go.RowKit Go.Sort
/-- The library's variable holds some number. -/
def Mx (w : World) : Prop := ∃ m : Int, w.cell? ⟨0, 0, none⟩ = some (.int .i64 m)
theorem Mx.below {w w' : World} (h : Mx w) (hb : Below w.heap.size w w') : Mx w' := by obtain ⟨m, hm⟩ := h; exact ⟨m, keepc hm hb⟩
def cutS (s : ByteArray) : List UInt8 × List UInt8 × Bool := Lib.cut s.data.toList [58, 58]
def splitM (s : ByteArray) : ByteArray := if (cutS s).2.2 = true then ofL (cutS s).1 else ofL []
def splitR (s : ByteArray) : ByteArray := if (cutS s).2.2 = true then ofL (cutS s).2.1 else s
def splitB (s : ByteArray) : Bool := if (cutS s).2.2 = true then wordB (ofL (cutS s).1) && wordB (ofL (cutS s).2.1) else wordB s
end Go.Proofs.Ytonknapfndaalaa

namespace Go.Proofs.Ytonknapfndaalaa
set_option linter.unusedVariables false
set_option maxRecDepth 1000000
open Go.RowKit Go.Sort
def sep : ByteArray := ⟨#[58, 58]⟩
theorem sepL : sep.toList = [58, 58] := by decide +kernel
theorem cutS_yes {s : ByteArray} {k : Nat} (h : Lib.index s.data.toList [58, 58] = (k : Int)) : cutS s = (s.data.toList.take k, s.data.toList.drop (k + 2), true) := by
 unfold cutS Lib.cut; rw [h, if_pos (by omega)]; simp
theorem cutS_no {s : ByteArray} (h : Lib.index s.data.toList [58, 58] = -1) : cutS s = (s.data.toList, [], false) := by
 unfold cutS Lib.cut; rw [h, if_neg (by omega)]
theorem rword_is (s : ByteArray) (hs : s.size ≤ maxLen) (b : Bool) (h : wordB s = b) (w : World) : Calls Try.prog 51 #[.string s] w fun e w' => e = .returned (.bool b) ∧ w' = w := (rword_any s hs w).mono fun _ _ ⟨he, hw⟩ => ⟨by rw [he, h], hw.symm⟩
set_option maxHeartbeats 3200000 in
theorem rsplit_any (s : ByteArray) (hs : s.size ≤ 1000000) (w : World) : Calls Try.prog 50 #[.string s] w
  fun e w' => e = .returned (.tuple #[.string (splitM s), .string (splitR s), .bool (splitB s)]) ∧ Below w.heap.size w w' := by
 have HSM := Lib.hid (show splitM s = if (cutS s).2.2 = true then ofL (cutS s).1 else ofL [] from rfl)
 have HSR := Lib.hid (show splitR s = if (cutS s).2.2 = true then ofL (cutS s).2.1 else s from rfl)
 have HSB := Lib.hid (show splitB s = if (cutS s).2.2 = true then wordB (ofL (cutS s).1) && wordB (ofL (cutS s).2.1) else wordB s from rfl)
 go_enter Try.func50, Try.ntmps50
 go_wp2
 go_loop [5] (fun i => ∃ k : Nat, k ≤ s.size ∧ i = .int .i64 k ∧ Hid (Lib.NoOccB s sep k)) (fun i => s.size - (intOf i).toNat)
 case atStart => exact ⟨0, Nat.zero_le _, rfl, Lib.hid (Lib.NoOcc.zero _ _)⟩
 case round =>
  obtain ⟨k, hk, rfl, HA⟩ := hrel
  by_cases hlt : (k : Int) + 1 < s.size
  ·
   obtain ⟨b, hb⟩ : ∃ b, ((s.extract k (k + 2)).toList == [58, 58]) = b := ⟨_, rfl⟩
   cases b
   ·
    have H1 := Lib.hid (Lib.miss_piece s sep k HA.out (by show k + 2 ≤ s.size; omega) (by rw [sepL]; exact hb))
    go_wp2
    go_round
    case rel => exact ⟨k + 1, by omega, by go_num, H1⟩
    case measure => simp [intOf]; omega
   ·
    have hi := Lib.hit s sep k HA.out (by show k + 2 ≤ s.size; omega) (by rw [sepL]; exact hb)
    have hcut := cutS_yes (s := s) (k := k) hi
    rw [hcut] at HSM HSR HSB
    simp only [ofL_take, ofL_drop, if_true] at HSM HSR HSB
    clear hi hcut
    obtain ⟨bx, hbx⟩ : ∃ bx, wordB (s.extract 0 k) = bx := ⟨_, rfl⟩
    have HBX := Lib.hid hbx
    clear hbx
    obtain ⟨by_, hby⟩ : ∃ by_, wordB (s.extract (k + 2) s.size) = by_ := ⟨_, rfl⟩
    have HBY := Lib.hid hby
    clear hby
    have hx : (s.extract 0 k).size ≤ maxLen := by simp [maxLen]; omega
    have hy : (s.extract (k + 2) s.size).size ≤ maxLen := by simp [maxLen]; omega
    have HX := Lib.hid hx
    have HY := Lib.hid hy
    clear hx hy
    go_upto_region 5 with fail
    cases bx
    ·
     skip
     refine wp_region_quiet_lit (by kernel_rfl) (by kernel_rfl) ?_
     repeat (go_big_quiet_step ((go_at_call 51; with_reducible exact Calls.quiet_of_same (rword_is _ HX.out _ HBX.out _))))
     refine wpQuiet_nil ?_
     intro _ hw'
     obtain ⟨nq, hw''⟩ := hw'
     subst hw''
     go_wp2
     go_ret3
     exact ⟨by rw [HSM.out, HSR.out, HSB.out, HBX.out]; rfl, below_drewN (Below.refl _ _) _⟩
    ·
     skip
     refine wp_region_quiet_lit (by kernel_rfl) (by kernel_rfl) ?_
     repeat (go_big_quiet_step (first | (go_at_call 51; with_reducible exact Calls.quiet_of_same (rword_is _ HX.out _ HBX.out _)) | (go_at_call 51; with_reducible exact Calls.quiet_of_same (rword_is _ HY.out _ HBY.out _))))
     refine wpQuiet_nil ?_
     intro _ hw'
     obtain ⟨nq, hw''⟩ := hw'
     subst hw''
     go_wp2
     go_ret3
     exact ⟨by rw [HSM.out, HSR.out, HSB.out, HBX.out, HBY.out]; rfl, below_drewN (Below.refl _ _) _⟩
  ·
   have hi := Lib.past s sep k HA.out (by decide) (by show s.size < k + 2; omega)
   have hcut := cutS_no (s := s) hi
   rw [hcut] at HSM HSR HSB
   have hs2 : s.size ≤ maxLen := by unfold maxLen; omega
   have HS := Lib.hid hs2
   clear hi hcut hs2
   go_wp2_with fail
   refine (rword_any s HS.out _).mono ?_
   rintro e w1 ⟨rfl, rfl⟩
   go_wp2
   go_ret3
   exact ⟨by rw [HSM.out, HSR.out, HSB.out]; rfl, Below.refl _ _⟩
end Go.Proofs.Ytonknapfndaalaa
