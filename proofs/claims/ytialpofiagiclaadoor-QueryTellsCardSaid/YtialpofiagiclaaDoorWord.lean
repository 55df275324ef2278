/- Names: the walks of Word, of the program's and the reference's. -/
import Derived.Test.YtialpofiagiclaaDoorChecked
import Derived.Test.YtialpofiagiclaaDoorHa
import Derived.WalkLawsBesides
import Derived.Handy
import Derived.KernelRfl
import Derived.BigQuiet
namespace Go.Proofs.YtialpofiagiclaaDoor
set_option linter.unusedVariables false
set_option maxRecDepth 1000000
open Go.RowKit Go.Sort

def isLet (c : Int) : Bool := decide (97 ≤ c) && decide (c ≤ 122) || decide (65 ≤ c) && decide (c ≤ 90)
def isDig (c : Int) : Bool := decide (48 ≤ c) && decide (c ≤ 57)
def okAt (i : Nat) (c : Int) : Bool := isLet c || (!(i == 0) && (isDig c || c == 95))
set_option maxHeartbeats 400000 in
theorem letter_any (c : Int) (w : World) : Calls Tryd.prog 59 #[.int .u8 c] w fun e w' => e = .returned (.bool (isLet c)) ∧ w = w' := by
  have H := Lib.hid (show isLet c = (decide (97 ≤ c) && decide (c ≤ 122) || decide (65 ≤ c) && decide (c ≤ 90)) from rfl)
  by_cases h1 : 97 ≤ c <;> by_cases h2 : c ≤ 122 <;> by_cases h3 : 65 ≤ c <;> by_cases h4 : c ≤ 90
  all_goals first
    | (exfalso; omega)
    | (go_enter Tryd.func59, Tryd.ntmps59
       go_wp2
       go_ret
       exact ⟨ret_bool (by rw [H.out]; simp; omega), rfl⟩)
set_option maxHeartbeats 400000 in
theorem digit_any (c : Int) (w : World) : Calls Tryd.prog 60 #[.int .u8 c] w fun e w' => e = .returned (.bool (isDig c)) ∧ w = w' := by
  have H := Lib.hid (show isDig c = (decide (48 ≤ c) && decide (c ≤ 57)) from rfl)
  by_cases h1 : 48 ≤ c <;> by_cases h2 : c ≤ 57
  all_goals first
    | (exfalso; omega)
    | (go_enter Tryd.func60, Tryd.ntmps60
       go_wp2
       go_ret
       exact ⟨ret_bool (by rw [H.out]; simp; omega), rfl⟩)

def allAt (s : ByteArray) : Nat → Bool
  | 0 => true
  | k + 1 => allAt s k && okAt k (byt s k)
theorem allAt_no {s : ByteArray} {k : Nat} (h : okAt k (byt s k) = false) : ∀ n, k < n → allAt s n = false
  | 0, hn => by omega
  | n + 1, hn => by
    unfold allAt
    by_cases e : k = n
    · subst e; rw [h]; simp
    · rw [allAt_no h n (by omega)]; simp
def resB (s : ByteArray) : Bool := s.toList.isEmpty || s.toList == [109, 111, 100, 117, 108, 101] || s.toList == [105, 109, 112, 111, 114, 116] || s.toList == [119, 97, 116, 101, 114]
/-- May it be a name? -/
def wordB (s : ByteArray) : Bool := !(resB s) && allAt s s.size && decide ((s.size : Int) ≤ 12)
theorem letter_yes (c : Int) (w : World) (h : isLet c = true) : Calls Tryd.prog 59 #[.int .u8 c] w fun e w' => e = .returned (.bool true) ∧ w = w' := (letter_any c w).mono fun _ _ ⟨he, hw⟩ => ⟨by rw [he, h], hw⟩
theorem letter_no (c : Int) (w : World) (h : isLet c = false) : Calls Tryd.prog 59 #[.int .u8 c] w fun e w' => e = .returned (.bool false) ∧ w = w' := (letter_any c w).mono fun _ _ ⟨he, hw⟩ => ⟨by rw [he, h], hw⟩
theorem digit_yes (c : Int) (w : World) (h : isDig c = true) : Calls Tryd.prog 60 #[.int .u8 c] w fun e w' => e = .returned (.bool true) ∧ w = w' := (digit_any c w).mono fun _ _ ⟨he, hw⟩ => ⟨by rw [he, h], hw⟩
theorem digit_no (c : Int) (w : World) (h : isDig c = false) : Calls Tryd.prog 60 #[.int .u8 c] w fun e w' => e = .returned (.bool false) ∧ w = w' := (digit_any c w).mono fun _ _ ⟨he, hw⟩ => ⟨by rw [he, h], hw⟩

set_option maxHeartbeats 1600000 in
theorem word_any (s : ByteArray) (hs : s.size ≤ maxLen) (w : World) : Calls Tryd.prog 47 #[.string s] w fun e w' => e = .returned (.bool (wordB s)) ∧ w = w' := by
  unfold maxLen at hs
  have HW := Lib.hid (show wordB s = (!(resB s) && allAt s s.size && decide ((s.size : Int) ≤ 12)) from rfl)
  have HR := Lib.hid (show resB s = (s.toList.isEmpty || s.toList == [109, 111, 100, 117, 108, 101] || s.toList == [105, 109, 112, 111, 114, 116] || s.toList == [119, 97, 116, 101, 114]) from rfl)
  obtain ⟨b0, h0⟩ : ∃ b0, s.toList.isEmpty = b0 := ⟨_, rfl⟩
  obtain ⟨b1, h1⟩ : ∃ b1, (s.toList == [109, 111, 100, 117, 108, 101]) = b1 := ⟨_, rfl⟩
  obtain ⟨b2, h2⟩ : ∃ b2, (s.toList == [105, 109, 112, 111, 114, 116]) = b2 := ⟨_, rfl⟩
  obtain ⟨b3, h3⟩ : ∃ b3, (s.toList == [119, 97, 116, 101, 114]) = b3 := ⟨_, rfl⟩
  have HB := Lib.hid (show resB s = (b0 || b1 || b2 || b3) by rw [HR.out, h0, h1, h2, h3])
  clear HR
  by_cases hb : (b0 || b1 || b2 || b3) = true
  · cases b0 <;> cases b1 <;> cases b2 <;> cases b3
    all_goals first
      | (exfalso; revert hb; decide)
      | (clear hb
         go_enter Tryd.func47, Tryd.ntmps47
         go_wp2
         go_ret
         exact ⟨ret_bool (by rw [HW.out, HB.out]; rfl), rfl⟩)
  · obtain ⟨rfl, rfl, rfl, rfl⟩ : b0 = false ∧ b1 = false ∧ b2 = false ∧ b3 = false := by revert hb; cases b0 <;> cases b1 <;> cases b2 <;> cases b3 <;> decide
    clear hb
    have H0 := Lib.hid (show allAt s 0 = true from rfl)
    go_enter Tryd.func47, Tryd.ntmps47
    go_wp2
    go_loop [3] (fun i => ∃ k : Nat, k ≤ s.size ∧ i = .int .i64 k ∧ Hid (allAt s k = true)) (fun i => s.size - (intOf i).toNat)
    case atStart => exact ⟨0, Nat.zero_le _, rfl, H0⟩
    case round =>
      obtain ⟨k, hk, rfl, HA⟩ := hrel
      clear H0 h0 h1 h2 h3
      by_cases hlt : k < s.size
      · obtain ⟨c, hc⟩ : ∃ c : Int, (s[k].toNat : Int) = c := ⟨_, rfl⟩
        have HC := Lib.hid (show byt s k = c by rw [byt_get hlt, hc])
        have hok : ∀ b, okAt k c = b → Hid (okAt k (byt s k) = b) := fun b h => Lib.hid (by rw [HC.out]; exact h)
        have HN : okAt k c = false → Hid (wordB s = false) := fun h => Lib.hid (by rw [HW.out, allAt_no (k := k) (by rw [HC.out]; exact h) _ hlt]; simp)
        have HY : okAt k c = true → Hid (allAt s (k + 1) = true) := fun h => Lib.hid (by unfold allAt; rw [HA.out, HC.out, h]; rfl)
        clear hok
        obtain ⟨bl, hl⟩ : ∃ bl, isLet c = bl := ⟨_, rfl⟩
        have HL := Lib.hid hl
        clear hl
        cases bl with
        | true =>
          have H1 := HY (by unfold okAt; rw [HL.out]; rfl)
          clear HY HN
          go_wp2_with (go_at_call 59; refine (letter_yes _ _ HL.out).mono ?_; rintro e w' ⟨rfl, rfl⟩)
          go_round
          case rel => exact ⟨k + 1, by omega, by go_num, H1⟩
          case measure => simp [intOf]; omega
        | false =>
          cases k with
          | zero =>
            have H1 := HN (by unfold okAt; rw [HL.out]; rfl)
            clear HY HN
            go_wp2_with (go_at_call 59; refine (letter_no _ _ HL.out).mono ?_; rintro e w' ⟨rfl, rfl⟩)
            go_ret
            exact ⟨ret_bool H1.out.symm, rfl⟩
          | succ k =>
            have hk0 : (((k + 1 : Nat) : Int) == 0) = false := by rw [beq_eq_false_iff_ne]; omega
            have hk1 : ((k : Int) + 1 == 0) = false := by rw [beq_eq_false_iff_ne]; omega
            obtain ⟨bd, hd⟩ : ∃ bd, isDig c = bd := ⟨_, rfl⟩
            have HD := Lib.hid hd
            clear hd
            cases bd with
            | true =>
              have H1 := HY (by unfold okAt; rw [HL.out, HD.out]; rfl)
              clear HY HN
              go_wp2_with (first | (go_at_call 59; refine (letter_no _ _ HL.out).mono ?_; rintro e w' ⟨rfl, rfl⟩) | (go_at_call 60; refine (digit_yes _ _ HD.out).mono ?_; rintro e w' ⟨rfl, rfl⟩))
              go_round
              case rel => exact ⟨k + 1 + 1, by omega, by go_num, H1⟩
              case measure => simp [intOf]; omega
            | false =>
              obtain ⟨bu, hu⟩ : ∃ bu, (c != 95) = bu := ⟨_, rfl⟩
              cases bu with
              | false =>
                have hu' : (c == 95) = true := by rw [bne] at hu; revert hu; cases (c == 95) <;> simp
                have H1 := HY (by unfold okAt; rw [HL.out, HD.out, hu']; rfl)
                clear HY HN hu'
                go_wp2_with (first | (go_at_call 59; refine (letter_no _ _ HL.out).mono ?_; rintro e w' ⟨rfl, rfl⟩) | (go_at_call 60; refine (digit_no _ _ HD.out).mono ?_; rintro e w' ⟨rfl, rfl⟩))
                go_round
                case rel => exact ⟨k + 1 + 1, by omega, by go_num, H1⟩
                case measure => simp [intOf]; omega
              | true =>
                have hu' : (c == 95) = false := by rw [bne] at hu; revert hu; cases (c == 95) <;> simp
                have H1 := HN (by unfold okAt; rw [HL.out, HD.out, hu']; rfl)
                clear HY HN hu'
                go_wp2_with (first | (go_at_call 59; refine (letter_no _ _ HL.out).mono ?_; rintro e w' ⟨rfl, rfl⟩) | (go_at_call 60; refine (digit_no _ _ HD.out).mono ?_; rintro e w' ⟨rfl, rfl⟩))
                go_ret
                exact ⟨ret_bool H1.out.symm, rfl⟩
      · obtain rfl : k = s.size := by omega
        go_wp2
        go_ret
        exact ⟨ret_bool (by rw [HW.out, HB.out, HA.out]; simp), rfl⟩
end Go.Proofs.YtialpofiagiclaaDoor
