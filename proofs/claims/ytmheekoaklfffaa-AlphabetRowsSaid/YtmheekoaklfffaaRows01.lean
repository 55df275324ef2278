/- The law AlphabetRows, walked. -/
import Derived.Test.YtmheekoaklfffaaAwake01
import Derived.Test.YtmheekoaklfffaaSetFacts
import Derived.Test.YtmheekoaklfffaaQuiet
namespace Go.Proofs.Ytmheekoaklfffaa
set_option linter.unusedVariables false
open Go.RowKit Go.Sort

set_option maxHeartbeats 8000000 in
theorem rows_walk (lo hi x : Nat) (hl : lo < 256) (hh : hi < 256) (hx : x < 256) (w : World) :
    Calls Try.prog 5 #[.int .u8 (lo : Int), .int .u8 (hi : Int), .int .u8 (x : Int)] w
      fun e w' => e = .returned (.bool true) ∧ Below w.heap.size w w' := by
  obtain ⟨s0, s1, s2, s3, H0, hS, hS0⟩ : ∃ s0 s1 s2 s3 : Nat, (rowW 0 lo (hi + 1) = s0 ∧ rowW 1 lo (hi + 1) = s1 ∧ rowW 2 lo (hi + 1) = s2 ∧ rowW 3 lo (hi + 1) = s3) ∧ (s0 < P64 ∧ s1 < P64 ∧ s2 < P64 ∧ s3 < P64) ∧
      inSet s0 s1 s2 s3 x = (decide (lo ≤ x) && decide (x < hi + 1)) := ⟨_, _, _, _, ⟨rfl, rfl, rfl, rfl⟩, ⟨rowW_lt .., rowW_lt .., rowW_lt .., rowW_lt ..⟩, inSet_row lo (hi + 1) x hx (by omega)⟩
  obtain ⟨t0, t1, t2, t3, H1⟩ : ∃ t0 t1 t2 t3 : Nat, (withW s0 x 0 = t0 ∧ withW s1 x 1 = t1 ∧ withW s2 x 2 = t2 ∧ withW s3 x 3 = t3) := ⟨_, _, _, _, rfl, rfl, rfl, rfl⟩
  have hT : t0 < P64 ∧ t1 < P64 ∧ t2 < P64 ∧ t3 < P64 := by
    rw [← H1.1, ← H1.2.1, ← H1.2.2.1, ← H1.2.2.2]
    exact ⟨withW_lt hS.1, withW_lt hS.2.1, withW_lt hS.2.2.1, withW_lt hS.2.2.2⟩
  obtain ⟨n, hn, hnv⟩ : ∃ n, card s0 s1 s2 s3 = n ∧ n = hi + 1 - lo := ⟨_, rfl, by rw [← H0.1, ← H0.2.1, ← H0.2.2.1, ← H0.2.2.2]; exact card_row lo hi hh⟩
  have C1 := Lib.hid (range_v (lo := (lo : Int)) (hi := (hi : Int)) (by simpa using H0) (by omega) (by omega) (by omega) (by omega))
  have C2 := Lib.hid (count_v hn hS.1 hS.2.1 hS.2.2.1 hS.2.2.2)
  have W1 := with_any s0 s1 s2 s3 x hx hS.1 hS.2.1 hS.2.2.1 hS.2.2.2
  rw [H1.1, H1.2.1, H1.2.2.1, H1.2.2.2] at W1
  have C3 := Lib.hid W1
  clear W1
  have C5 := Lib.hid (count_v (n := card t0 t1 t2 t3) rfl hT.1 hT.2.1 hT.2.2.1 hT.2.2.2)
  have hmore : inSet s0 s1 s2 s3 x = false → card t0 t1 t2 t3 = n + 1 := fun h => by
    rw [← H1.1, ← H1.2.1, ← H1.2.2.1, ← H1.2.2.2, ← hn]; exact card_with _ _ _ _ _ hx h
  have hsame : inSet s0 s1 s2 s3 x = true → t0 = s0 ∧ t1 = s1 ∧ t2 = s2 ∧ t3 = s3 := fun h => by
    rw [← H1.1, ← H1.2.1, ← H1.2.2.1, ← H1.2.2.2]; exact with_in _ _ _ _ _ h
  have C4 (v : Bool) (hv : inSet s0 s1 s2 s3 x = v) := has_v (x := (x : Int)) (v := v) (by rw [Int.toNat_natCast, hv]) (by omega) (by omega) hS.1 hS.2.1 hS.2.2.1 hS.2.2.2
  have C4' := Lib.hid C4
  have hmore' := Lib.hid hmore
  have hsame' := Lib.hid hsame
  have hS0' := Lib.hid hS0
  have hN := Lib.hid hnv
  clear H0 H1 hS hT hn C4 hmore hsame hS0 hnv
  go_enter Try.func5, Try.ntmps5
  go_wp2_with fail
  refine (C1.out _).mono ?_
  rintro e w1 ⟨rfl, hb1⟩
  go_wp2_with fail
  have D1 := Own.fresh w1 24 [.int .u64 (s0 : Int), .int .u64 (s1 : Int), .int .u64 (s2 : Int), .int .u64 (s3 : Int)]
  have B1 := hb1.alloc hb1.size (.cells #[.int .u64 (s0 : Int), .int .u64 (s1 : Int), .int .u64 (s2 : Int), .int .u64 (s3 : Int)] 24)
  refine (C2.out _).mono ?_
  rintro e w2 ⟨rfl, hb2⟩
  have D2 := D1.under hb2 D1.lt
  have B2 := keepb B1 hb2
  clear D1 B1 hb1 hb2
  generalize w1.heap.size = g1 at *
  obtain ⟨a0, a1, a2, a3, -⟩ := D2.four
  go_wp2_with fail
  refine (C3.out _).mono ?_
  rintro e w3 ⟨rfl, hb3⟩
  have D3 := (D2.under hb3 D2.lt).on_alloc (.cells #[.int .u64 (t0 : Int), .int .u64 (t1 : Int), .int .u64 (t2 : Int), .int .u64 (t3 : Int)] 24)
  have B3 := (keepb B2 hb3).alloc (keepb B2 hb3).size (.cells #[.int .u64 (t0 : Int), .int .u64 (t1 : Int), .int .u64 (t2 : Int), .int .u64 (t3 : Int)] 24)
  have E3 := Own.fresh w3 24 [.int .u64 (t0 : Int), .int .u64 (t1 : Int), .int .u64 (t2 : Int), .int .u64 (t3 : Int)]
  clear hb3 D2 B2 a0 a1 a2 a3
  go_upto_region 4 with (fail)
  generalize w3.alloc _ = W at *
  generalize w3.heap.size = g3 at *
  obtain ⟨a0, a1, a2, a3, -⟩ := D3.four
  obtain ⟨b0, b1, b2, b3, -⟩ := E3.four
  clear D3 E3
  have k0 := cell_regrown a0
  have k1 := cell_regrown a1
  have k2 := cell_regrown a2
  have k3 := cell_regrown a3
  have k4 := cell_regrown b0
  have k5 := cell_regrown b1
  have k6 := cell_regrown b2
  have k7 := cell_regrown b3
  clear a0 a1 a2 a3 b0 b1 b2 b3
  refine wp_region_plain_below ?_
  have hnb : n ≤ 256 := by have := hN.out; omega
  obtain ⟨v, hv⟩ : ∃ v, (decide (lo ≤ x) && decide (x < hi + 1)) = v := ⟨_, rfl⟩
  have hq : lo ≤ hi → ((n : Int) == (hi : Int) - (lo : Int) + 1) = true := fun h => by have := hN.out; rw [beq_iff_eq]; omega
  have hq0 : ¬ lo ≤ hi → n = 0 := fun h => by have := hN.out; omega
  have C4 := Lib.hid (C4'.out v (hS0'.out.trans hv))
  cases v
  · have C6 := C5.out
    rw [hmore'.out (hS0'.out.trans hv)] at C6
    have C6 := Lib.hid C6
    have h12 : ¬ (lo ≤ x ∧ x ≤ hi) := by simp at hv; omega
    clear hv
    by_cases h1 : lo ≤ x
    · have h2 : ¬ x ≤ hi := by omega
      by_cases h3 : lo ≤ hi
      · have hq' := hq h3
        clear hq hq0
        repeat (go_big_quiet_step (first
          | (go_at_call 6; with_reducible exact Calls.regrown_of (awake_any _))
          | (go_at_call 7; with_reducible exact Calls.regrown_of (C4.out _))
          | (go_at_call 17; with_reducible exact Calls.regrown_of (C6.out _))))
        refine wpQuiet_nil ?_
        intro _ hw'
        obtain ⟨⟨dq, osq⟩, hw''⟩ := hw'
        subst hw''
        go_wp2
        go_ret
        exact ⟨rfl, keepb B3 (below_regrown W dq osq)⟩
      · have hq' := hq0 h3
        subst hq'
        have hmx : (if (hi : Int) - (lo : Int) + 1 < 0 then (0 : Int) else (hi : Int) - (lo : Int) + 1) = 0 := by split <;> omega
        clear hq hq0
        repeat (go_big_quiet_step (first
          | (go_at_call 6; with_reducible exact Calls.regrown_of (awake_any _))
          | (go_at_call 7; with_reducible exact Calls.regrown_of (C4.out _))
          | (go_at_call 17; with_reducible exact Calls.regrown_of (C6.out _))))
        refine wpQuiet_nil ?_
        intro _ hw'
        obtain ⟨⟨dq, osq⟩, hw''⟩ := hw'
        subst hw''
        go_wp2
        go_ret
        exact ⟨rfl, keepb B3 (below_regrown W dq osq)⟩
    · by_cases h3 : lo ≤ hi
      · have hq' := hq h3
        clear hq hq0
        repeat (go_big_quiet_step (first
          | (go_at_call 6; with_reducible exact Calls.regrown_of (awake_any _))
          | (go_at_call 7; with_reducible exact Calls.regrown_of (C4.out _))
          | (go_at_call 17; with_reducible exact Calls.regrown_of (C6.out _))))
        refine wpQuiet_nil ?_
        intro _ hw'
        obtain ⟨⟨dq, osq⟩, hw''⟩ := hw'
        subst hw''
        go_wp2
        go_ret
        exact ⟨rfl, keepb B3 (below_regrown W dq osq)⟩
      · have hq' := hq0 h3
        subst hq'
        have hmx : (if (hi : Int) - (lo : Int) + 1 < 0 then (0 : Int) else (hi : Int) - (lo : Int) + 1) = 0 := by split <;> omega
        clear hq hq0
        repeat (go_big_quiet_step (first
          | (go_at_call 6; with_reducible exact Calls.regrown_of (awake_any _))
          | (go_at_call 7; with_reducible exact Calls.regrown_of (C4.out _))
          | (go_at_call 17; with_reducible exact Calls.regrown_of (C6.out _))))
        refine wpQuiet_nil ?_
        intro _ hw'
        obtain ⟨⟨dq, osq⟩, hw''⟩ := hw'
        subst hw''
        go_wp2
        go_ret
        exact ⟨rfl, keepb B3 (below_regrown W dq osq)⟩
  · have C6 := C5
    obtain ⟨e0, e1, e2, e3⟩ := hsame'.out (hS0'.out.trans hv)
    simp at hv
    have h1 : lo ≤ x := hv.1
    have h2 : x ≤ hi := by omega
    have hq' := hq (by omega)
    clear hq hq0 hv
    repeat (go_big_quiet_step (first
      | (go_at_call 6; with_reducible exact Calls.regrown_of (awake_any _))
      | (go_at_call 7; with_reducible exact Calls.regrown_of (C4.out _))
      | (go_at_call 17; with_reducible exact Calls.regrown_of (C6.out _))))
    refine wpQuiet_nil ?_
    intro _ hw'
    obtain ⟨⟨dq, osq⟩, hw''⟩ := hw'
    subst hw''
    go_wp2
    go_ret
    exact ⟨rfl, keepb B3 (below_regrown W dq osq)⟩
end Go.Proofs.Ytmheekoaklfffaa
