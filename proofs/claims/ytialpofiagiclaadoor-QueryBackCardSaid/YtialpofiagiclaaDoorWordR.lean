/- Names: the walk of the reference's Word. -/
import Derived.Test.YtialpofiagiclaaDoorWord
namespace Go.Proofs.YtialpofiagiclaaDoor
set_option linter.unusedVariables false
set_option maxRecDepth 1000000
open Go.RowKit Go.Sort

set_option maxHeartbeats 3200000 in
theorem rword_any (s : ByteArray) (hs : s.size ≤ maxLen) (w : World) : Calls Tryd.prog 29 #[.string s] w fun e w' => e = .returned (.bool (wordB s)) ∧ w = w' := by
  unfold maxLen at hs
  have HW := Lib.hid (show wordB s = (!(resB s) && allAt s s.size && decide ((s.size : Int) ≤ 12)) from rfl)
  have HR := Lib.hid (show resB s = (s.toList.isEmpty || s.toList == [109, 111, 100, 117, 108, 101] || s.toList == [105, 109, 112, 111, 114, 116] || s.toList == [119, 97, 116, 101, 114]) from rfl)
  obtain ⟨b0, h0⟩ : ∃ b0, s.toList.isEmpty = b0 := ⟨_, rfl⟩
  obtain ⟨b1, h1⟩ : ∃ b1, (s.toList == [109, 111, 100, 117, 108, 101]) = b1 := ⟨_, rfl⟩
  obtain ⟨b2, h2⟩ : ∃ b2, (s.toList == [105, 109, 112, 111, 114, 116]) = b2 := ⟨_, rfl⟩
  obtain ⟨b3, h3⟩ : ∃ b3, (s.toList == [119, 97, 116, 101, 114]) = b3 := ⟨_, rfl⟩
  have HB := Lib.hid (show resB s = (b0 || b1 || b2 || b3) by rw [HR.out, h0, h1, h2, h3])
  clear HR
  by_cases hz : (s.size : Int) ≤ 12
  · by_cases hb : (b0 || b1 || b2 || b3) = true
    · cases b0 <;> cases b1 <;> cases b2 <;> cases b3
      all_goals first
        | (exfalso; revert hb; decide)
        | (clear hb
           go_enter Tryd.func29, Tryd.ntmps29
           go_wp2
           go_ret
           exact ⟨ret_bool (by rw [HW.out, HB.out]; rfl), rfl⟩)
    · obtain ⟨rfl, rfl, rfl, rfl⟩ : b0 = false ∧ b1 = false ∧ b2 = false ∧ b3 = false := by revert hb; cases b0 <;> cases b1 <;> cases b2 <;> cases b3 <;> decide
      clear hb
      have H0 := Lib.hid (show allAt s 0 = true from rfl)
      go_enter Tryd.func29, Tryd.ntmps29
      go_wp2
      go_loop [3] (fun i => ∃ k : Nat, k ≤ s.size ∧ i = .int .i64 k ∧ Hid (allAt s k = true)) (fun i => s.size - (intOf i).toNat)
      case atStart => exact ⟨0, Nat.zero_le _, rfl, H0⟩
      case round =>
        obtain ⟨k, hk, rfl, HA⟩ := hrel
        clear H0 h0 h1 h2 h3
        by_cases hlt : k < s.size
        · obtain ⟨c, hc⟩ : ∃ c : Int, (s[k].toNat : Int) = c := ⟨_, rfl⟩
          have HC := Lib.hid (show byt s k = c by rw [byt_get hlt, hc])
          have hc0 : 0 ≤ c ∧ c ≤ 255 := by rw [← HC.out]; exact byt_lt s k
          have HN : okAt k c = false → Hid (wordB s = false) := fun h => Lib.hid (by rw [HW.out, allAt_no (k := k) (by rw [HC.out]; exact h) _ hlt]; simp)
          have HY : okAt k c = true → Hid (allAt s (k + 1) = true) := fun h => Lib.hid (by unfold allAt; rw [HA.out, HC.out, h]; rfl)
          by_cases g1 : 97 ≤ c <;> by_cases g2 : c ≤ 122 <;> by_cases g3 : 65 ≤ c <;> by_cases g4 : c ≤ 90
          all_goals try (exfalso; omega)
          all_goals
            have HL := Lib.hid (show isLet c = (decide (97 ≤ c) && decide (c ≤ 122) || decide (65 ≤ c) && decide (c ≤ 90)) from rfl)
            simp only [g1, g2, g3, g4, decide_true, decide_false, Bool.and_true, Bool.and_false, Bool.or_true, Bool.or_false] at HL
          all_goals try
            ( have H1 := HY (by unfold okAt; rw [HL.out]; rfl)
              clear HY HN
              go_wp2
              go_round
              case rel => exact ⟨k + 1, by omega, by go_num, H1⟩
              case measure => simp [intOf]; omega
              done)
          all_goals
            cases k with
            | zero =>
              have H1 := HN (by unfold okAt; rw [HL.out]; rfl)
              clear HY HN
              go_wp2
              go_ret
              exact ⟨ret_bool H1.out.symm, rfl⟩
            | succ k =>
              have hk0 : (((k + 1 : Nat) : Int) == 0) = false := by rw [beq_eq_false_iff_ne]; omega
              have hk1 : ((k : Int) + 1 == 0) = false := by rw [beq_eq_false_iff_ne]; omega
              obtain ⟨bu, hu⟩ : ∃ bu, (c != 95) = bu := ⟨_, rfl⟩
              cases bu with
              | false =>
                have hu' : (c == 95) = true := by rw [bne] at hu; revert hu; cases (c == 95) <;> simp
                have H1 := HY (by unfold okAt; rw [HL.out, hu']; simp)
                clear HY HN hu'
                go_wp2
                go_round
                case rel => exact ⟨k + 1 + 1, by omega, by go_num, H1⟩
                case measure => simp [intOf]; omega
              | true =>
                have hu' : (c == 95) = false := by rw [bne] at hu; revert hu; cases (c == 95) <;> simp
                by_cases g5 : c < 48
                · first
                    | (exfalso; omega)
                    | (have H1 := HN (by unfold okAt isDig; rw [HL.out, hu']; simp; omega)
                       clear HY HN hu'
                       go_wp2
                       go_ret
                       exact ⟨ret_bool H1.out.symm, rfl⟩)
                · by_cases g6 : 57 < c
                  · first
                      | (exfalso; omega)
                      | (have H1 := HN (by unfold okAt isDig; rw [HL.out, hu']; simp; omega)
                         clear HY HN hu'
                         go_wp2
                         go_ret
                         exact ⟨ret_bool H1.out.symm, rfl⟩)
                  · first
                      | (exfalso; omega)
                      | (have H1 := HY (by unfold okAt isDig; rw [HL.out, hu']; simp; omega)
                         clear HY HN hu'
                         go_wp2
                         go_round
                         case rel => exact ⟨k + 1 + 1, by omega, by go_num, H1⟩
                         case measure => simp [intOf]; omega)
        · obtain rfl : k = s.size := by omega
          go_wp2
          go_ret
          exact ⟨ret_bool (by rw [HW.out, HB.out, HA.out]; simp; omega), rfl⟩
  · have HF := Lib.hid (show wordB s = false by rw [HW.out, decide_eq_false hz]; simp)
    clear HB
    cases b0
    all_goals
      go_enter Tryd.func29, Tryd.ntmps29
      go_wp2
      go_ret
      exact ⟨ret_bool HF.out.symm, rfl⟩
end Go.Proofs.YtialpofiagiclaaDoor
