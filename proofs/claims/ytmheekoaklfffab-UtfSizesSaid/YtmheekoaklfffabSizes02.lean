/- The law UtfSizes, walked. -/
import Derived.Test.YtmheekoaklfffabAwake02
import Derived.Test.YtmheekoaklfffabUtfLess
namespace Go.Proofs.Ytmheekoaklfffab
set_option linter.unusedVariables false
open Go.RowKit Go.Sort Go.PlainAid

theorem size_enc (a : Int) (h : rightB a = true) : ((encS a).size : Int) = if a < 128 then 1 else if a < 2048 then 2 else if a < 65536 then 3 else 4 := by
  rw [encS_size a h, encL_len]; split
  · rfl
  · split
    · rfl
    · split <;> rfl

set_option maxHeartbeats 4000000 in
theorem sizes_walk (m n : Nat) (w : World) :
    Calls Try.prog 5 #[.int .u32 (m : Int), .int .u32 (n : Int)] w fun e w' => e = .returned (.bool true) ∧ Below w.heap.size w w' := by
  have ha0 : (0 : Int) ≤ (m : Int) % 1114112 := by omega
  have ha1 : (m : Int) % 1114112 ≤ 1114111 := by omega
  have hb0 : (0 : Int) ≤ (n : Int) % 1114112 := by omega
  have hb1 : (n : Int) % 1114112 ≤ 1114111 := by omega
  have E := encode_any ((m : Int) % 1114112)
  have F := encode_any ((n : Int) % 1114112)
  have hsz := size_enc ((m : Int) % 1114112)
  have hls := less_enc ((m : Int) % 1114112) ((n : Int) % 1114112)
  have hsm := same_enc ((m : Int) % 1114112) ((n : Int) % 1114112)
  generalize hqa : (m : Int) % 1114112 = a at *
  generalize hqb : (n : Int) % 1114112 = b at *
  generalize rightB a = p at *
  generalize rightB b = q at *
  generalize encS a = x at *
  generalize encS b = y at *
  have E' := Lib.hid E
  have F' := Lib.hid F
  have hsz' := Lib.hid hsz
  have hls' := Lib.hid hls
  have hsm' := Lib.hid hsm
  clear E F hsz hls hsm
  have hcase : a < 128 ∨ (128 ≤ a ∧ a < 2048) ∨ (2048 ≤ a ∧ a < 65536) ∨ 65536 ≤ a := by omega
  cases p
  · rcases hcase with h | ⟨h, h'⟩ | ⟨h, h'⟩ | h
    all_goals
      go_enter Try.func5, Try.ntmps5
      go_wp2_with fail
      refine (E'.out _).mono ?_
      rintro e w1 ⟨rfl, hb1⟩
      go_wp2_with fail
      refine (F'.out _).mono ?_
      rintro e w2 ⟨rfl, hb2⟩
      go_wp2_with fail
      refine (awake_any _).mono ?_
      rintro e w3 ⟨rfl, hb3⟩
      go_wp2_with fail
      go_ret
      exact ⟨rfl, keepb (keepb hb1 hb2) hb3⟩
  · cases q
    · rcases hcase with h | ⟨h, h'⟩ | ⟨h, h'⟩ | h
      all_goals
        have hz := hsz'.out rfl
        first
          | rw [if_pos h] at hz
          | rw [if_neg (by omega), if_pos h'] at hz
          | rw [if_neg (by omega), if_neg (by omega), if_pos h'] at hz
          | rw [if_neg (by omega), if_neg (by omega), if_neg (by omega)] at hz
        go_enter Try.func5, Try.ntmps5
        go_wp2_with fail
        refine (E'.out _).mono ?_
        rintro e w1 ⟨rfl, hb1⟩
        go_wp2_with fail
        refine (F'.out _).mono ?_
        rintro e w2 ⟨rfl, hb2⟩
        go_wp2_with fail
        refine (awake_any _).mono ?_
        rintro e w3 ⟨rfl, hb3⟩
        go_wp2_with fail
        go_ret
        exact ⟨rfl, keepb (keepb hb1 hb2) hb3⟩
    · rcases hcase with h | ⟨h, h'⟩ | ⟨h, h'⟩ | h
      all_goals
        have hz := hsz'.out rfl
        have hl := hls'.out rfl rfl
        have hm := hsm'.out rfl rfl
        first
          | rw [if_pos h] at hz
          | rw [if_neg (by omega), if_pos h'] at hz
          | rw [if_neg (by omega), if_neg (by omega), if_pos h'] at hz
          | rw [if_neg (by omega), if_neg (by omega), if_neg (by omega)] at hz
        go_enter Try.func5, Try.ntmps5
        go_wp2_with fail
        refine (E'.out _).mono ?_
        rintro e w1 ⟨rfl, hb1⟩
        go_wp2_with fail
        refine (F'.out _).mono ?_
        rintro e w2 ⟨rfl, hb2⟩
        go_wp2_with fail
        refine (awake_any _).mono ?_
        rintro e w3 ⟨rfl, hb3⟩
        go_wp2_with fail
        go_ret
        exact ⟨rfl, keepb (keepb hb1 hb2) hb3⟩
end Go.Proofs.Ytmheekoaklfffab
