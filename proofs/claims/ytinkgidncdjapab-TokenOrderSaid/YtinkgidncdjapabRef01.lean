/- The walks of the document's answers of layer 1. -/
import Derived.Test.YtinkgidncdjapabChecked
import Derived.Test.YtinkgidncdjapabPop
import Derived.Test.YtinkgidncdjapabOwn
import Derived.WalkKit
import Derived.WalkSpells
import Derived.WalkLawsBesides
import Derived.Lib.Hide
import Derived.BigQuiet
import Derived.Deep.RegionHeld3
import Derived.Deep.DeepCutAuto
import Derived.RegionTactic
import Derived.Handy
import Derived.KernelRfl
namespace Go.Proofs.Ytinkgidncdjapab
set_option linter.unusedVariables false
open Go.RowKit
set_option maxHeartbeats 400000 in
theorem rwith_any (a b c d x : Nat) (hx : x < 256) (ha : a < P64) (hb : b < P64) (hc : c < P64) (hd : d < P64) (w : World) :
    Calls Try.prog 51 #[.agg #[.int .u64 (a : Int), .int .u64 (b : Int), .int .u64 (c : Int), .int .u64 (d : Int)], .int .u8 (x : Int)] w
      fun e w' => e = .returned (.agg #[.int .u64 (withW a x 0 : Int), .int .u64 (withW b x 1 : Int), .int .u64 (withW c x 2 : Int), .int .u64 (withW d x 3 : Int)]) ∧ Below w.heap.size w w' := by
  have : x / 64 = 0 ∨ x / 64 = 1 ∨ x / 64 = 2 ∨ x / 64 = 3 := by omega
  have Ha := Lib.hid (or_bit a x ha)
  have Hb := Lib.hid (or_bit b x hb)
  have Hc := Lib.hid (or_bit c x hc)
  have Hd := Lib.hid (or_bit d x hd)
  clear ha hb hc hd
  rcases this with h | h | h | h
  · have h' : (x : Int) / 64 = 0 := by omega
    go_enter Try.func51, Try.ntmps51
    go_wp2
    go_returns
    exact ⟨ret_set (by simp [withW, h, Ha.out]) (by simp [withW, h]) (by simp [withW, h]) (by simp [withW, h]), by go_grown⟩
  · have h' : (x : Int) / 64 = 1 := by omega
    go_enter Try.func51, Try.ntmps51
    go_wp2
    go_returns
    exact ⟨ret_set (by simp [withW, h]) (by simp [withW, h, Hb.out]) (by simp [withW, h]) (by simp [withW, h]), by go_grown⟩
  · have h' : (x : Int) / 64 = 2 := by omega
    go_enter Try.func51, Try.ntmps51
    go_wp2
    go_returns
    exact ⟨ret_set (by simp [withW, h]) (by simp [withW, h]) (by simp [withW, h, Hc.out]) (by simp [withW, h]), by go_grown⟩
  · have h' : (x : Int) / 64 = 3 := by omega
    go_enter Try.func51, Try.ntmps51
    go_wp2
    go_returns
    exact ⟨ret_set (by simp [withW, h]) (by simp [withW, h]) (by simp [withW, h]) (by simp [withW, h, Hd.out]), by go_grown⟩

set_option maxHeartbeats 1000000 in
theorem rnot_any (a b c d : Nat) (ha : a < P64) (hb : b < P64) (hc : c < P64) (hd : d < P64) (w : World) :
    Calls Try.prog 28 #[.agg #[.int .u64 (a : Int), .int .u64 (b : Int), .int .u64 (c : Int), .int .u64 (d : Int)]] w
      fun e w' => e = .returned (.agg #[.int .u64 (notW a : Int), .int .u64 (notW b : Int), .int .u64 (notW c : Int), .int .u64 (notW d : Int)]) ∧ Below w.heap.size w w' := by
  have Ha := Lib.hid (not_word a ha)
  have Hb := Lib.hid (not_word b hb)
  have Hc := Lib.hid (not_word c hc)
  have Hd := Lib.hid (not_word d hd)
  clear ha hb hc hd
  go_enter Try.func28, Try.ntmps28
  go_wp2
  go_rounds 5
  go_returns
  exact ⟨ret_set Ha.out Hb.out Hc.out Hd.out, by go_grown⟩

set_option maxHeartbeats 1000000 in
theorem ror_any (a b c d a' b' c' d' : Nat) (ha : a < P64) (hb : b < P64) (hc : c < P64) (hd : d < P64) (ha' : a' < P64) (hb' : b' < P64) (hc' : c' < P64) (hd' : d' < P64) (w : World) :
    Calls Try.prog 40 #[.agg #[.int .u64 (a : Int), .int .u64 (b : Int), .int .u64 (c : Int), .int .u64 (d : Int)], .agg #[.int .u64 (a' : Int), .int .u64 (b' : Int), .int .u64 (c' : Int), .int .u64 (d' : Int)]] w
      fun e w' => e = .returned (.agg #[.int .u64 ((a ||| a' : Nat) : Int), .int .u64 ((b ||| b' : Nat) : Int), .int .u64 ((c ||| c' : Nat) : Int), .int .u64 ((d ||| d' : Nat) : Int)]) ∧ Below w.heap.size w w' := by
  have Ha := Lib.hid (u64_or_nat a a' ha ha')
  have Hb := Lib.hid (u64_or_nat b b' hb hb')
  have Hc := Lib.hid (u64_or_nat c c' hc hc')
  have Hd := Lib.hid (u64_or_nat d d' hd hd')
  clear ha hb hc hd ha' hb' hc' hd'
  go_enter Try.func40, Try.ntmps40
  go_wp2
  refine wp_loop_rounds 5 ?_
  repeat any_goals (rw [rounds_succ]; go_wp2; try (go_region; go_wp2))
  go_returns
  exact ⟨ret_set Ha.out Hb.out Hc.out Hd.out, by go_grown⟩

end Go.Proofs.Ytinkgidncdjapab
