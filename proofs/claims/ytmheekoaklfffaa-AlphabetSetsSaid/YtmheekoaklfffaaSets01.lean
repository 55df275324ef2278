/- The law AlphabetSets, walked. -/
import Derived.Test.YtmheekoaklfffaaAwake01
import Derived.Test.YtmheekoaklfffaaSetFacts
import Derived.Lib.QuietBelow
namespace Go.Proofs.Ytmheekoaklfffaa
set_option linter.unusedVariables false
open Go.RowKit Go.Sort

set_option maxHeartbeats 8000000 in
theorem sets_walk (a b c d a' b' c' d' x : Nat) (hx : x < 256) (hA : a < P64 ∧ b < P64 ∧ c < P64 ∧ d < P64) (hA' : a' < P64 ∧ b' < P64 ∧ c' < P64 ∧ d' < P64) (w : World) :
    Calls Try.prog 4 #[.agg #[.int .u64 (a : Int), .int .u64 (b : Int), .int .u64 (c : Int), .int .u64 (d : Int)], .agg #[.int .u64 (a' : Int), .int .u64 (b' : Int), .int .u64 (c' : Int), .int .u64 (d' : Int)], .int .u8 (x : Int)] w
      fun e w' => e = .returned (.bool true) ∧ Below w.heap.size w w' := by
  obtain ⟨v, hv⟩ : ∃ v, inSet a b c d x = v := ⟨_, rfl⟩
  obtain ⟨u, hu⟩ : ∃ u, inSet a' b' c' d' x = u := ⟨_, rfl⟩
  obtain ⟨n, hn⟩ : ∃ n, card a b c d = n := ⟨_, rfl⟩
  obtain ⟨m, hm⟩ : ∃ n, card (notW a) (notW b) (notW c) (notW d) = n := ⟨_, rfl⟩
  have hnm : n + m = 256 := by rw [← hn, ← hm]; exact card_not a b c d hA.1 hA.2.1 hA.2.2.1 hA.2.2.2
  have lo (p q : Nat) (hp : p < P64) (hq : q < P64) : p ||| q < P64 := Nat.or_lt_two_pow (n := 64) hp hq
  have C1 := Lib.hid (or_any a b c d a' b' c' d' hA.1 hA.2.1 hA.2.2.1 hA.2.2.2 hA'.1 hA'.2.1 hA'.2.2.1 hA'.2.2.2)
  have C2 := Lib.hid (has_v (x := (x : Int)) (v := v || u) (by rw [Int.toNat_natCast, inSet_or _ _ _ _ _ _ _ _ _ hx, hv, hu]) (by omega) (by omega) (lo _ _ hA.1 hA'.1) (lo _ _ hA.2.1 hA'.2.1) (lo _ _ hA.2.2.1 hA'.2.2.1) (lo _ _ hA.2.2.2 hA'.2.2.2))
  have C3 := Lib.hid (has_v (x := (x : Int)) (v := v) (by rw [Int.toNat_natCast, hv]) (by omega) (by omega) hA.1 hA.2.1 hA.2.2.1 hA.2.2.2)
  have C4 := Lib.hid (has_v (x := (x : Int)) (v := u) (by rw [Int.toNat_natCast, hu]) (by omega) (by omega) hA'.1 hA'.2.1 hA'.2.2.1 hA'.2.2.2)
  have C5 := Lib.hid (not_any a b c d hA.1 hA.2.1 hA.2.2.1 hA.2.2.2)
  have C6 := not_any _ _ _ _ (notW_lt a) (notW_lt b) (notW_lt c) (notW_lt d)
  simp only [not_not_word hA.1, not_not_word hA.2.1, not_not_word hA.2.2.1, not_not_word hA.2.2.2] at C6
  have C6' := Lib.hid C6
  clear C6
  have C7 := Lib.hid (has_v (x := (x : Int)) (v := !v) (by rw [Int.toNat_natCast, inSet_not _ _ _ _ _ hx hA.1 hA.2.1 hA.2.2.1 hA.2.2.2, hv]) (by omega) (by omega) (notW_lt a) (notW_lt b) (notW_lt c) (notW_lt d))
  have C8 := Lib.hid (count_v hn hA.1 hA.2.1 hA.2.2.1 hA.2.2.2)
  have C9 := Lib.hid (count_v hm (notW_lt a) (notW_lt b) (notW_lt c) (notW_lt d))
  have C10 := Lib.hid (with_any a b c d x hx hA.1 hA.2.1 hA.2.2.1 hA.2.2.2)
  have C11 := Lib.hid (has_v (x := (x : Int)) (v := true) (by rw [Int.toNat_natCast, inSet_with _ _ _ _ _ _ hx hx]; simp) (by omega) (by omega) (withW_lt (x := x) (i := 0) hA.1) (withW_lt (x := x) (i := 1) hA.2.1) (withW_lt (x := x) (i := 2) hA.2.2.1) (withW_lt (x := x) (i := 3) hA.2.2.2))
  clear hv hu hn hm hA hA' lo
  have hs : IntKind.i64.wrap ((n : Int) + (m : Int)) = 256 := by rw [IntKind.wrap_i64]; omega
  have hn' : n ≤ 256 := by omega
  have hm' : m ≤ 256 := by omega
  clear hnm
  have huu : (u == u) = true := by cases u <;> rfl
  cases v
  all_goals
    simp only [Bool.false_or, Bool.true_or, Bool.not_true, Bool.not_false] at C2 C7
    go_enter Try.func4, Try.ntmps4
    go_wp2_with fail
    have D2 := (Own.fresh w 24 [.int .u64 (a : Int), .int .u64 (b : Int), .int .u64 (c : Int), .int .u64 (d : Int)]).on_alloc (.cells #[.int .u64 (a' : Int), .int .u64 (b' : Int), .int .u64 (c' : Int), .int .u64 (d' : Int)] 24)
    have E2 := Own.fresh (w.alloc (.cells #[.int .u64 (a : Int), .int .u64 (b : Int), .int .u64 (c : Int), .int .u64 (d : Int)] 24)) 24 [.int .u64 (a' : Int), .int .u64 (b' : Int), .int .u64 (c' : Int), .int .u64 (d' : Int)]
    rw [World.size_alloc] at E2
    have hB : Below w.heap.size w ((w.alloc (.cells #[.int .u64 (a : Int), .int .u64 (b : Int), .int .u64 (c : Int), .int .u64 (d : Int)] 24)).alloc (.cells #[.int .u64 (a' : Int), .int .u64 (b' : Int), .int .u64 (c' : Int), .int .u64 (d' : Int)] 24)) := by go_grown
    generalize (w.alloc _).alloc _ = W at *
    obtain ⟨a0, a1, a2, a3, -⟩ := D2.four
    obtain ⟨b0, b1, b2, b3, -⟩ := E2.four
    clear D2 E2
    have k0 := cell_regrown a0
    have k1 := cell_regrown a1
    have k2 := cell_regrown a2
    have k3 := cell_regrown a3
    have k4 := cell_regrown b0
    have k5 := cell_regrown b1
    have k6 := cell_regrown b2
    have k7 := cell_regrown b3
    clear a0 a1 a2 a3 b0 b1 b2 b3
    refine wp_region_quiet_below (by kernel_rfl) (by kernel_rfl) ?_
    repeat (go_big_quiet_step (first
      | (go_at_call 6; with_reducible exact Calls.regrown_of (awake_any _))
      | (go_at_call 7; first
            | with_reducible exact Calls.regrown_of (C2.out _)
            | with_reducible exact Calls.regrown_of (C3.out _)
            | with_reducible exact Calls.regrown_of (C4.out _)
            | with_reducible exact Calls.regrown_of (C7.out _)
            | with_reducible exact Calls.regrown_of (C11.out _))
      | (go_at_call 17; first
            | with_reducible exact Calls.regrown_of (C8.out _)
            | with_reducible exact Calls.regrown_of (C9.out _))
      | (go_at_call 15; first
            | with_reducible exact Calls.regrown_of (C5.out _)
            | with_reducible exact Calls.regrown_of (C6'.out _))
      | (go_at_call 13; with_reducible exact Calls.regrown_of (C1.out _))
      | (go_at_call 9; with_reducible exact Calls.regrown_of (C10.out _))))
    refine wpQuiet_nil ?_
    intro _ hw'
    obtain ⟨⟨dq, osq⟩, hw''⟩ := hw'
    subst hw''
    go_wp2
    go_ret
    exact ⟨rfl, keepb hB (below_regrown W dq osq)⟩
end Go.Proofs.Ytmheekoaklfffaa
