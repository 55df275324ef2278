/- The walks of layer 1's functions. -/
import Derived.Test.YtinkgidncdjapabChecked
import Derived.Test.YtinkgidncdjapabPop
import Derived.Test.YtinkgidncdjapabOwn
import Derived.WalkKit
import Derived.WalkSpells
import Derived.WalkLawsBesides
import Derived.Lib.Hide
import Derived.BigQuiet
import Derived.Deep.RegionHeld3
import Derived.Deep.DeepCutAuto
import Derived.RegionTactic
import Derived.Handy
import Derived.KernelRfl
namespace Go.Proofs.Ytinkgidncdjapab
set_option linter.unusedVariables false
open Go.RowKit
set_option maxHeartbeats 400000 in
theorem with_any (a b c d x : Nat) (hx : x < 256) (ha : a < P64) (hb : b < P64) (hc : c < P64) (hd : d < P64) (w : World) :
    Calls Try.prog 55 #[.agg #[.int .u64 (a : Int), .int .u64 (b : Int), .int .u64 (c : Int), .int .u64 (d : Int)], .int .u8 (x : Int)] w
      fun e w' => e = .returned (.agg #[.int .u64 (withW a x 0 : Int), .int .u64 (withW b x 1 : Int), .int .u64 (withW c x 2 : Int), .int .u64 (withW d x 3 : Int)]) ∧ Below w.heap.size w w' := by
  have : x / 64 = 0 ∨ x / 64 = 1 ∨ x / 64 = 2 ∨ x / 64 = 3 := by omega
  have Ha := Lib.hid (or_bit a x ha)
  have Hb := Lib.hid (or_bit b x hb)
  have Hc := Lib.hid (or_bit c x hc)
  have Hd := Lib.hid (or_bit d x hd)
  clear ha hb hc hd
  rcases this with h | h | h | h
  · have h' : (x : Int) / 64 = 0 := by omega
    go_enter Try.func55, Try.ntmps55
    go_wp2
    go_returns
    exact ⟨ret_set (by simp [withW, h, Ha.out]) (by simp [withW, h]) (by simp [withW, h]) (by simp [withW, h]), by go_grown⟩
  · have h' : (x : Int) / 64 = 1 := by omega
    go_enter Try.func55, Try.ntmps55
    go_wp2
    go_returns
    exact ⟨ret_set (by simp [withW, h]) (by simp [withW, h, Hb.out]) (by simp [withW, h]) (by simp [withW, h]), by go_grown⟩
  · have h' : (x : Int) / 64 = 2 := by omega
    go_enter Try.func55, Try.ntmps55
    go_wp2
    go_returns
    exact ⟨ret_set (by simp [withW, h]) (by simp [withW, h]) (by simp [withW, h, Hc.out]) (by simp [withW, h]), by go_grown⟩
  · have h' : (x : Int) / 64 = 3 := by omega
    go_enter Try.func55, Try.ntmps55
    go_wp2
    go_returns
    exact ⟨ret_set (by simp [withW, h]) (by simp [withW, h]) (by simp [withW, h]) (by simp [withW, h, Hd.out]), by go_grown⟩

set_option maxHeartbeats 1000000 in
theorem not_any (a b c d : Nat) (ha : a < P64) (hb : b < P64) (hc : c < P64) (hd : d < P64) (w : World) :
    Calls Try.prog 34 #[.agg #[.int .u64 (a : Int), .int .u64 (b : Int), .int .u64 (c : Int), .int .u64 (d : Int)]] w
      fun e w' => e = .returned (.agg #[.int .u64 (notW a : Int), .int .u64 (notW b : Int), .int .u64 (notW c : Int), .int .u64 (notW d : Int)]) ∧ Below w.heap.size w w' := by
  have Ha := Lib.hid (not_word a ha)
  have Hb := Lib.hid (not_word b hb)
  have Hc := Lib.hid (not_word c hc)
  have Hd := Lib.hid (not_word d hd)
  clear ha hb hc hd
  go_enter Try.func34, Try.ntmps34
  go_wp2
  go_rounds 5
  go_returns
  exact ⟨ret_set Ha.out Hb.out Hc.out Hd.out, by go_grown⟩

set_option maxHeartbeats 1000000 in
theorem or_any (a b c d a' b' c' d' : Nat) (ha : a < P64) (hb : b < P64) (hc : c < P64) (hd : d < P64) (ha' : a' < P64) (hb' : b' < P64) (hc' : c' < P64) (hd' : d' < P64) (w : World) :
    Calls Try.prog 33 #[.agg #[.int .u64 (a : Int), .int .u64 (b : Int), .int .u64 (c : Int), .int .u64 (d : Int)], .agg #[.int .u64 (a' : Int), .int .u64 (b' : Int), .int .u64 (c' : Int), .int .u64 (d' : Int)]] w
      fun e w' => e = .returned (.agg #[.int .u64 ((a ||| a' : Nat) : Int), .int .u64 ((b ||| b' : Nat) : Int), .int .u64 ((c ||| c' : Nat) : Int), .int .u64 ((d ||| d' : Nat) : Int)]) ∧ Below w.heap.size w w' := by
  have Ha := Lib.hid (u64_or_nat a a' ha ha')
  have Hb := Lib.hid (u64_or_nat b b' hb hb')
  have Hc := Lib.hid (u64_or_nat c c' hc hc')
  have Hd := Lib.hid (u64_or_nat d d' hd hd')
  clear ha hb hc hd ha' hb' hc' hd'
  go_enter Try.func33, Try.ntmps33
  go_wp2
  refine wp_loop_rounds 5 ?_
  repeat any_goals (rw [rounds_succ]; go_wp2; try (go_region; go_wp2))
  go_returns
  exact ⟨ret_set Ha.out Hb.out Hc.out Hd.out, by go_grown⟩

set_option maxHeartbeats 1000000 in
theorem ones_any (a : Nat) (ha : a < P64) (w : World) :
    Calls Try.prog 47 #[.int .u64 (a : Int)] w
      fun e w' => e = .returned (.int .i64 (pop a : Int)) ∧ w = w' := by
  obtain ⟨y1, y2, y3, y4, y5, y6, e1, e2, e3, e4, e5, e6, e7⟩ := ones_bits a ha
  clear ha
  go_enter Try.func47, Try.ntmps47
  go_wp2
  go_ret
  exact ⟨rfl, rfl⟩

set_option maxHeartbeats 1000000 in
theorem count_any (a b c d : Nat) (ha : a < P64) (hb : b < P64) (hc : c < P64) (hd : d < P64) (w : World) :
    Calls Try.prog 35 #[.agg #[.int .u64 (a : Int), .int .u64 (b : Int), .int .u64 (c : Int), .int .u64 (d : Int)]] w
      fun e w' => e = .returned (.int .i64 (card a b c d : Int)) ∧ Below w.heap.size w w' := by
  have h1 := pop_le a
  have h2 := pop_le b
  have h3 := pop_le c
  have h4 := pop_le d
  have Ha := Lib.hid ha
  have Hb := Lib.hid hb
  have Hc := Lib.hid hc
  have Hd := Lib.hid hd
  clear ha hb hc hd
  have i0 : ∀ w, (Instr.index 25 (.agg #[.int .u64 (a : Int), .int .u64 (b : Int), .int .u64 (c : Int), .int .u64 (d : Int)]) (.int .i64 0)).run Try.prog w = .ok (.int .u64 (a : Int)) w := fun _ => by kernel_rfl
  have i1 : ∀ w, (Instr.index 25 (.agg #[.int .u64 (a : Int), .int .u64 (b : Int), .int .u64 (c : Int), .int .u64 (d : Int)]) (.int .i64 1)).run Try.prog w = .ok (.int .u64 (b : Int)) w := fun _ => by kernel_rfl
  have i2 : ∀ w, (Instr.index 25 (.agg #[.int .u64 (a : Int), .int .u64 (b : Int), .int .u64 (c : Int), .int .u64 (d : Int)]) (.int .i64 2)).run Try.prog w = .ok (.int .u64 (c : Int)) w := fun _ => by kernel_rfl
  have i3 : ∀ w, (Instr.index 25 (.agg #[.int .u64 (a : Int), .int .u64 (b : Int), .int .u64 (c : Int), .int .u64 (d : Int)]) (.int .i64 3)).run Try.prog w = .ok (.int .u64 (d : Int)) w := fun _ => by kernel_rfl
  go_enter Try.func35, Try.ntmps35
  go_wp2
  refine wp_loop_rounds 5 ?_
  rw [rounds_succ]
  go_wp2_with fail
  refine (ones_any a Ha.out _).mono ?_
  rintro e w' ⟨rfl, rfl⟩
  go_wp2_with fail
  rw [rounds_succ]
  go_wp2_with fail
  refine (ones_any b Hb.out _).mono ?_
  rintro e w' ⟨rfl, rfl⟩
  go_wp2_with fail
  rw [rounds_succ]
  go_wp2_with fail
  refine (ones_any c Hc.out _).mono ?_
  rintro e w' ⟨rfl, rfl⟩
  go_wp2_with fail
  rw [rounds_succ]
  go_wp2_with fail
  refine (ones_any d Hd.out _).mono ?_
  rintro e w' ⟨rfl, rfl⟩
  go_wp2_with fail
  rw [rounds_succ]
  go_wp2_with fail
  go_ret
  exact ⟨by simp [card], by go_grown⟩

end Go.Proofs.Ytinkgidncdjapab
