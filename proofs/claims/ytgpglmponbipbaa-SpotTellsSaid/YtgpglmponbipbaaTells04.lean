/- The laws of layer 4, walked. -/
import Derived.Test.YtgpglmponbipbaaAwake04
namespace Go.Proofs.Ytgpglmponbipbaa
set_option linter.unusedVariables false
open Go.RowKit Go.Sort Go.PlainAid

theorem atV_form (s : ByteArray) (L C : Int) : ∃ (n : Int) (b : Bool), atV s L C = .tuple #[.int .i64 n, .bool b] := by
  unfold atV; split
  · exact ⟨_, _, rfl⟩
  · exact ⟨_, _, rfl⟩

set_option maxHeartbeats 4000000 in
theorem tells_walk (s : ByteArray) (hs : s.size ≤ maxLen) (i L C : Int) (hL : -9223372036854775808 ≤ L ∧ L ≤ 9223372036854775807) (hC : -9223372036854775808 ≤ C ∧ C ≤ 9223372036854775807) (w : World) :
    Calls Try.prog 3 #[.string s, .int .i64 i, .agg #[.int .i64 L, .int .i64 C]] w fun e w' => e = .returned (.bool true) ∧ Below w.heap.size w w' := by
  unfold maxLen at hs
  by_cases hl : (s.size : Int) ≤ 300
  · have h1000 : (s.size : Int) ≤ 1000 := by omega
    obtain ⟨n, b, hV⟩ := atV_form s L C
    have C1 := at_any s L C h1000 hL hC
    have C2 := rat_any s L C h1000
    rw [hV] at C1 C2
    have C1' := Lib.hid C1
    have C2' := Lib.hid C2
    have C3 := Lib.hid (of_any s i h1000)
    have C4 := Lib.hid (rof_any s i h1000)
    have C5 := Lib.hid (lines_any s h1000)
    have C6 := Lib.hid (rlines_any s h1000)
    clear C1 C2 hV hL hC h1000
    generalize (ln s (within s i) : Int) = x at *
    generalize (cl s (within s i) : Int) = y at *
    generalize (ln s s.size : Int) = z at *
    cases b
    all_goals
      go_enter Try.func3, Try.ntmps3
      go_wp2_with fail
      refine (C1'.out _).mono ?_
      rintro e w1 ⟨rfl, hb1⟩
      have D := (Own.fresh w 23 [.int .i64 L, .int .i64 C]).under hb1 (by simp)
      have hB : Below w.heap.size w w1 := keepb (by go_grown) hb1
      clear hb1
      obtain ⟨k0, k1, -, -⟩ := D.two
      go_wp2_with fail
      refine (C2'.out _).mono ?_
      rintro e w2 ⟨rfl, hb2⟩
      have hB2 := keepb hB hb2
      clear D k0 k1 hB hb2
      go_wp2_with fail
      refine (awake_any _).mono ?_
      rintro e w3 ⟨rfl, hb3⟩
      have hB3 := keepb hB2 hb3
      clear hB2 hb3
      go_wp2_with fail
      refine (C3.out _).mono ?_
      rintro e w4 ⟨rfl, hb4⟩
      have hB4 := keepb hB3 hb4
      clear hB3 hb4
      go_wp2_with fail
      refine (C4.out _).mono ?_
      rintro e w5 ⟨rfl, hb5⟩
      have hB5 := keepb hB4 hb5
      clear hB4 hb5
      go_wp2_with fail
      refine (C5.out _).mono ?_
      rintro e w6 ⟨rfl, rfl⟩
      go_wp2_with fail
      refine (C6.out _).mono ?_
      rintro e w6 ⟨rfl, hb6⟩
      have hB6 := keepb hB5 hb6
      clear hB5 hb6
      go_wp2_with fail
      go_ret
      exact ⟨rfl, hB6⟩
  · go_enter Try.func3, Try.ntmps3
    go_wp2_with fail
    refine (awake_any _).mono ?_
    rintro e w3 ⟨rfl, hb3⟩
    have hB : Below w.heap.size w w3 := keepb (by go_grown) hb3
    go_wp2_with fail
    go_ret
    exact ⟨rfl, hB⟩

theorem of_at (s : ByteArray) (j : Nat) (hj : j ≤ s.size) (hs : (s.size : Int) ≤ 1000) (w : World) : Calls Try.prog 9 #[.string s, .int .i64 (j : Int)] w fun e w' => e = .returned (.agg #[.int .i64 (ln s j : Int), .int .i64 (cl s j : Int)]) ∧ Below w.heap.size w w' := by
  have := of_any s (j : Int) hs w
  rwa [within_self hj] at this

set_option maxHeartbeats 4000000 in
theorem back_walk (s : ByteArray) (hs : s.size ≤ maxLen) (m : Nat) (hm : (m : Int) < 65536) (w : World) :
    Calls Try.prog 4 #[.string s, .int .u16 (m : Int)] w fun e w' => e = .returned (.bool true) ∧ Below w.heap.size w w' := by
  unfold maxLen at hs
  by_cases hl : (s.size : Int) ≤ 300
  · have h1000 : (s.size : Int) ≤ 1000 := by omega
    obtain ⟨k, hk⟩ : ∃ k : Nat, m % (s.size + 1) = k := ⟨_, rfl⟩
    have hks : k ≤ s.size := by have := Nat.mod_lt m (show 0 < s.size + 1 by omega); omega
    have hk2 : (m : Int) % ((s.size : Int) + 1) = (k : Int) := by rw [← hk]; push_cast; rfl
    have hk3 : (wrap64 (m : Int)).tmod ((s.size : Int) + 1) = (k : Int) := by
      rw [show wrap64 (m : Int) = (m : Int) by unfold wrap64; omega, Int.tmod_eq_emod_of_nonneg (by omega), hk2]
    have hk4 : (k : Int) ≤ 300 := by omega
    have a1 := ln_pos s k
    have a2 := cl_pos s k
    have a3 := ln_mono s k (s.size - k)
    rw [show k + (s.size - k) = s.size by omega] at a3
    have a4 := ln_le s s.size
    have a5 := cl_le s k
    have C1 := Lib.hid (of_at s k hks h1000)
    have C2 := Lib.hid (at_v (s := s) (L := (ln s k : Int)) (C := (cl s k : Int)) h1000 (by omega) (by omega) (atV_some (atF_some hks rfl rfl)))
    have C3 := Lib.hid (lines_below s h1000)
    generalize ln s k = x at *
    generalize cl s k = y at *
    generalize ln s s.size = z at *
    have b1 : (1 : Int) ≤ (x : Int) := by omega
    have b2 : (1 : Int) ≤ (y : Int) := by omega
    have b3 : (x : Int) ≤ (z : Int) := by omega
    clear hm hk hk2 a1 a2 a3 a4 a5
    go_enter Try.func4, Try.ntmps4
    go_wp2_with fail
    refine (C1.out _).mono ?_
    rintro e w1 ⟨rfl, hb1⟩
    go_wp2_with fail
    refine (C2.out _).mono ?_
    rintro e w2 ⟨rfl, hb2⟩
    have D := (Own.fresh w1 23 [.int .i64 (x : Int), .int .i64 (y : Int)]).under hb2 (by simp)
    have hB : Below w.heap.size w w2 := keepb (keepb hb1 (by go_grown)) hb2
    clear hb1 hb2 C1 C2
    have k0 := cell_regrown (D.cell 0)
    have k1 := cell_regrown (D.cell 1)
    clear D
    go_wp2_with fail
    refine wp_region_quiet_below (by kernel_rfl) (by kernel_rfl) ?_
    repeat (go_big_quiet_step (first
      | (go_at_call 6; with_reducible exact Calls.regrown_of (awake_any _))
      | (go_at_call 11; with_reducible exact Calls.regrown_of (C3.out _))))
    refine wpQuiet_nil ?_
    intro _ hw'
    obtain ⟨⟨dq, osq⟩, hw''⟩ := hw'
    subst hw''
    go_wp2
    go_ret
    exact ⟨rfl, keepb hB (below_regrown w2 dq osq)⟩
  · clear hm
    go_enter Try.func4, Try.ntmps4
    go_wp2_with fail
    refine (awake_any _).mono ?_
    rintro e w3 ⟨rfl, hb3⟩
    go_wp2_with fail
    go_ret
    exact ⟨rfl, hb3⟩

set_option maxHeartbeats 4000000 in
theorem steps_walk (s : ByteArray) (hs : s.size ≤ maxLen) (w : World) :
    Calls Try.prog 5 #[.string s] w fun e w' => e = .returned (.bool true) ∧ Below w.heap.size w w' := by
  unfold maxLen at hs
  by_cases hl : (s.size : Int) ≤ 300
  · have h1000 : (s.size : Int) ≤ 1000 := by omega
    have K := Lib.hid (fun j hj => of_at s j hj h1000)
    have C3 := Lib.hid (lines_any s h1000)
    have G := Lib.hid (get_bt s)
    have B1 := Lib.hid (ln_le s)
    have B2 := Lib.hid (cl_le s)
    have q1 (j : Nat) : ln s (j + 1) = if bt s j = 10 then ln s j + 1 else ln s j := rfl
    have q2 (j : Nat) : cl s (j + 1) = if bt s j = 10 then 1 else cl s j + 1 := rfl
    have Q1 := Lib.hid q1
    have Q2 := Lib.hid q2
    clear q1 q2
    go_enter Try.func5, Try.ntmps5
    go_wp2_with fail
    go_loopw [2, 3, 4] (fun b2 b3 b4 wr => ∃ j : Nat, b2 = .bool false ∧ b3 = .int .i64 (ln s j : Int) ∧ b4 = .int .i64 (j : Int) ∧ (j : Int) ≤ s.size ∧ Below w.heap.size w wr)
      (fun _ _ b4 _ => s.size - (intOf b4).toNat)
    case atStart => exact ⟨0, rfl, rfl, rfl, by omega, Below.refl _ _⟩
    case round =>
      obtain ⟨j, rfl, rfl, rfl, hj, hb⟩ := hrel
      have l1 := B1.out j
      have l2 := B2.out j
      by_cases h1 : (j : Int) < s.size
      · have J1 := Lib.hid (K.out j (by omega))
        have J2 := Lib.hid (K.out (j + 1) (by omega))
        have g := G.out j (by omega)
        have q1 := Q1.out j
        have q2 := Q2.out j
        have e1 : (((j + 1 : Nat)) : Int) = (j : Int) + 1 := by omega
        rw [e1] at J2
        clear K C3 G B1 B2 Q1 Q2 e1
        by_cases h3 : bt s j = 10
        · rw [if_pos h3] at q1 q2
          rw [q1, q2] at J2
          rw [h3] at g
          have hd : Hid (ln s (j + 1) = ln s j + 1) := Lib.hid q1
          clear q1 q2 h3
          generalize ln s j = x at *
          generalize cl s j = y at *
          rw [show (((x + 1 : Nat)) : Int) = (x : Int) + 1 by omega] at J2
          go_wp2_with fail
          refine (J1.out _).mono ?_
          rintro e w1 ⟨rfl, hb1⟩
          go_wp2_with fail
          refine (J2.out _).mono ?_
          rintro e w2 ⟨rfl, hb2⟩
          have hB := keepb (keepb hb hb1) hb2
          clear hb hb1 hb2 J1 J2
          go_wp2
          go_roundw
          case rel => exact ⟨j + 1, rfl, by rw [hd.out]; go_num, by go_num, by omega, keepb hB (by go_grown)⟩
          case measure => simp [intOf]; omega
        · rw [if_neg h3] at q1 q2
          rw [q1, q2] at J2
          have g2 : ¬ ((s[j].toNat : Int) = 10) := by rw [g]; exact h3
          have hd : Hid (ln s (j + 1) = ln s j) := Lib.hid q1
          clear q1 q2 g
          generalize ln s j = x at *
          generalize cl s j = y at *
          rw [show (((y + 1 : Nat)) : Int) = (y : Int) + 1 by omega] at J2
          go_wp2_with fail
          refine (J1.out _).mono ?_
          rintro e w1 ⟨rfl, hb1⟩
          go_wp2_with fail
          refine (J2.out _).mono ?_
          rintro e w2 ⟨rfl, hb2⟩
          have hB := keepb (keepb hb hb1) hb2
          clear hb hb1 hb2 J1 J2
          go_wp2
          go_roundw
          case rel => exact ⟨j + 1, rfl, by rw [hd.out], by go_num, by omega, keepb hB (by go_grown)⟩
          case measure => simp [intOf]; omega
      · have hjk : j = s.size := by omega
        have C3' := C3
        clear C3 K G B1 B2 Q1 Q2
        rw [hjk] at l1 l2 ⊢
        clear hjk hj h1
        generalize ln s s.size = z at *
        go_wp2_with fail
        refine (awake_any _).mono ?_
        rintro e w1 ⟨rfl, hb1⟩
        have hB := keepb hb hb1
        clear hb hb1
        go_wp2_with fail
        refine (C3'.out _).mono ?_
        rintro e w2 ⟨rfl, rfl⟩
        go_wp2_with fail
        go_ret
        exact ⟨rfl, hB⟩
  · go_enter Try.func5, Try.ntmps5
    go_wp2_with fail
    refine (awake_any _).mono ?_
    rintro e w3 ⟨rfl, hb3⟩
    go_wp2_with fail
    go_ret
    exact ⟨rfl, hb3⟩
end Go.Proofs.Ytgpglmponbipbaa
