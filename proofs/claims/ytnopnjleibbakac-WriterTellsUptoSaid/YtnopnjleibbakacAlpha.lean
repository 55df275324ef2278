/- The walks of layer 1's functions. -/
import Derived.Test.YtnopnjleibbakacChecked
import Derived.Test.YtnopnjleibbakacPop
import Derived.Test.YtnopnjleibbakacOwn
import Derived.WalkKit
import Derived.WalkSpells
import Derived.WalkLawsBesides
import Derived.Lib.Hide
import Derived.BigQuiet
import Derived.Deep.RegionHeld3
import Derived.Deep.DeepCutAuto
import Derived.RegionTactic
import Derived.Handy
import Derived.KernelRfl
namespace Go.Proofs.Ytnopnjleibbakac
set_option linter.unusedVariables false
open Go.RowKit

set_option maxHeartbeats 400000 in
theorem has_any (a b c d x : Nat) (hx : x < 256) (ha : a < P64) (hb : b < P64) (hc : c < P64) (hd : d < P64) (w : World) :
    Calls Try.prog 18 #[.agg #[.int .u64 (a : Int), .int .u64 (b : Int), .int .u64 (c : Int), .int .u64 (d : Int)], .int .u8 (x : Int)] w
      fun e w' => e = .returned (.bool (inSet a b c d x)) ∧ Below w.heap.size w w' := by
  have hw := word_get a b c d x hx
  have H := Lib.hid (has_bit a b c d x ha hb hc hd)
  clear ha hb hc hd
  go_enter Try.func18, Try.ntmps18
  go_wp2
  go_ret
  exact ⟨ret_bool H.out, (Below.refl _ _).alloc (Nat.le_refl _) _⟩

end Go.Proofs.Ytnopnjleibbakac
