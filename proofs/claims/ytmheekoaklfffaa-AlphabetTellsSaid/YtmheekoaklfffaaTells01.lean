/- The law AlphabetTells, walked. -/
import Derived.Test.YtmheekoaklfffaaAwake01
import Derived.Test.YtmheekoaklfffaaRef01C
import Derived.Test.YtmheekoaklfffaaQuiet
namespace Go.Proofs.Ytmheekoaklfffaa
set_option linter.unusedVariables false
open Go.RowKit Go.Sort

set_option maxHeartbeats 8000000 in
theorem tells_walk (a b c d a' b' c' d' x y : Nat) (hx : x < 256) (hy : y < 256) (hA : a < P64 ∧ b < P64 ∧ c < P64 ∧ d < P64) (hA' : a' < P64 ∧ b' < P64 ∧ c' < P64 ∧ d' < P64) (w : World) :
    Calls Try.prog 3 #[.agg #[.int .u64 (a : Int), .int .u64 (b : Int), .int .u64 (c : Int), .int .u64 (d : Int)], .agg #[.int .u64 (a' : Int), .int .u64 (b' : Int), .int .u64 (c' : Int), .int .u64 (d' : Int)], .agg #[.int .u8 (x : Int), .int .u8 (y : Int)]] w
      fun e w' => e = .returned (.bool true) ∧ Below w.heap.size w w' := by
  have C1 := Lib.hid (has_any a b c d x hx hA.1 hA.2.1 hA.2.2.1 hA.2.2.2)
  have C2 := Lib.hid (rhas_any a b c d x hx hA.1 hA.2.1 hA.2.2.1 hA.2.2.2)
  have C3 := Lib.hid (with_any a b c d x hx hA.1 hA.2.1 hA.2.2.1 hA.2.2.2)
  have C4 := Lib.hid (rwith_any a b c d x hx hA.1 hA.2.1 hA.2.2.1 hA.2.2.2)
  have C5 := Lib.hid (range_any x y hx hy)
  have C6 := Lib.hid (rrange_any x y hx hy)
  have C7 := Lib.hid (or_any a b c d a' b' c' d' hA.1 hA.2.1 hA.2.2.1 hA.2.2.2 hA'.1 hA'.2.1 hA'.2.2.1 hA'.2.2.2)
  have C8 := Lib.hid (ror_any a b c d a' b' c' d' hA.1 hA.2.1 hA.2.2.1 hA.2.2.2 hA'.1 hA'.2.1 hA'.2.2.1 hA'.2.2.2)
  have C9 := Lib.hid (not_any a b c d hA.1 hA.2.1 hA.2.2.1 hA.2.2.2)
  have C10 := Lib.hid (rnot_any a b c d hA.1 hA.2.1 hA.2.2.1 hA.2.2.2)
  have C11 := Lib.hid (count_any a b c d hA.1 hA.2.1 hA.2.2.1 hA.2.2.2)
  have C12 := Lib.hid (rcount_any a b c d hA.1 hA.2.1 hA.2.2.1 hA.2.2.2)
  clear hA hA' hx hy
  go_enter Try.func3, Try.ntmps3
  go_wp2_with fail
  have D2 := ((Own.fresh w 24 [.int .u64 (a : Int), .int .u64 (b : Int), .int .u64 (c : Int), .int .u64 (d : Int)]).on_alloc (.cells #[.int .u64 (a' : Int), .int .u64 (b' : Int), .int .u64 (c' : Int), .int .u64 (d' : Int)] 24)).on_alloc (.cells #[.int .u8 (x : Int), .int .u8 (y : Int)] 25)
  have E2 := (Own.fresh (w.alloc (.cells #[.int .u64 (a : Int), .int .u64 (b : Int), .int .u64 (c : Int), .int .u64 (d : Int)] 24)) 24 [.int .u64 (a' : Int), .int .u64 (b' : Int), .int .u64 (c' : Int), .int .u64 (d' : Int)]).on_alloc (.cells #[.int .u8 (x : Int), .int .u8 (y : Int)] 25)
  have F2 := Own.fresh ((w.alloc (.cells #[.int .u64 (a : Int), .int .u64 (b : Int), .int .u64 (c : Int), .int .u64 (d : Int)] 24)).alloc (.cells #[.int .u64 (a' : Int), .int .u64 (b' : Int), .int .u64 (c' : Int), .int .u64 (d' : Int)] 24)) 25 [.int .u8 (x : Int), .int .u8 (y : Int)]
  rw [World.size_alloc] at E2
  rw [World.size_alloc, World.size_alloc] at F2
  have hB : Below w.heap.size w (((w.alloc (.cells #[.int .u64 (a : Int), .int .u64 (b : Int), .int .u64 (c : Int), .int .u64 (d : Int)] 24)).alloc (.cells #[.int .u64 (a' : Int), .int .u64 (b' : Int), .int .u64 (c' : Int), .int .u64 (d' : Int)] 24)).alloc (.cells #[.int .u8 (x : Int), .int .u8 (y : Int)] 25)) := by go_grown
  generalize ((w.alloc _).alloc _).alloc _ = W at *
  have k0 := cell_regrown (D2.cell 0)
  have k1 := cell_regrown (D2.cell 1)
  have k2 := cell_regrown (D2.cell 2)
  have k3 := cell_regrown (D2.cell 3)
  have k4 := cell_regrown (E2.cell 0)
  have k5 := cell_regrown (E2.cell 1)
  have k6 := cell_regrown (E2.cell 2)
  have k7 := cell_regrown (E2.cell 3)
  have k8 := cell_regrown (F2.cell 0)
  have k9 := cell_regrown (F2.cell 1)
  clear D2 E2 F2
  refine wp_region_quiet_below (by kernel_rfl) (by kernel_rfl) ?_
  repeat (go_big_quiet_step (first
    | (go_at_call 6; with_reducible exact Calls.regrown_of (awake_any _))
    | (go_at_call 7; with_reducible exact Calls.regrown_of (C1.out _))
    | (go_at_call 8; with_reducible exact Calls.regrown_of (C2.out _))
    | (go_at_call 9; with_reducible exact Calls.regrown_of (C3.out _))
    | (go_at_call 10; with_reducible exact Calls.regrown_of (C4.out _))
    | (go_at_call 11; with_reducible exact Calls.regrown_of (C5.out _))
    | (go_at_call 12; with_reducible exact Calls.regrown_of (C6.out _))
    | (go_at_call 13; with_reducible exact Calls.regrown_of (C7.out _))
    | (go_at_call 14; with_reducible exact Calls.regrown_of (C8.out _))
    | (go_at_call 15; with_reducible exact Calls.regrown_of (C9.out _))
    | (go_at_call 16; with_reducible exact Calls.regrown_of (C10.out _))
    | (go_at_call 17; with_reducible exact Calls.regrown_of (C11.out _))
    | (go_at_call 18; with_reducible exact Calls.regrown_of (C12.out _))))
  refine wpQuiet_nil ?_
  intro _ hw'
  obtain ⟨⟨dq, osq⟩, hw''⟩ := hw'
  subst hw''
  go_wp2
  go_ret
  exact ⟨rfl, keepb hB (below_regrown W dq osq)⟩
end Go.Proofs.Ytmheekoaklfffaa
