/- The law UtfTells, walked. -/
import Derived.Test.YtmheekoaklfffabAwake02
import Derived.Test.YtmheekoaklfffabRef02D
namespace Go.Proofs.Ytmheekoaklfffab
set_option linter.unusedVariables false
open Go.RowKit Go.Sort Go.PlainAid

theorem decV_form (s : ByteArray) : ∃ (x y : Int) (z : Bool), decV s = .tuple #[.int .i64 x, .int .i64 y, .bool z] := by
  unfold decV; split
  · exact ⟨_, _, _, rfl⟩
  · exact ⟨_, _, _, rfl⟩

set_option maxHeartbeats 2000000 in
theorem tells_walk (n : Int) (s : ByteArray) (hs : s.size ≤ maxLen) (w : World) :
    Calls Try.prog 3 #[.int .i64 n, .string s] w fun e w' => e = .returned (.bool true) ∧ Below w.heap.size w w' := by
  obtain ⟨x, y, z, hd⟩ := decV_form s
  have D1 := decode_any s hs
  have D2 := rdecode_any s hs
  have E1 := encode_any n
  have E2 := rencode_any n
  have R1 := right_any n
  have R2 := rright_any n
  rw [hd] at D1 D2
  generalize rightB n = v at *
  generalize encS n = a at *
  have D1' := Lib.hid D1
  have D2' := Lib.hid D2
  have E1' := Lib.hid E1
  have E2' := Lib.hid E2
  have R1' := Lib.hid R1
  have R2' := Lib.hid R2
  clear hd D1 D2 E1 E2 R1 R2
  unfold maxLen at hs
  by_cases hl : (s.size : Int) ≤ 100
  · go_enter Try.func3, Try.ntmps3
    go_wp2_with fail
    refine (E1'.out _).mono ?_
    rintro e w1 ⟨rfl, hb1⟩
    go_wp2_with fail
    refine (E2'.out _).mono ?_
    rintro e w2 ⟨rfl, hb2⟩
    go_wp2_with fail
    refine (D1'.out _).mono ?_
    rintro e w3 ⟨rfl, hb3⟩
    go_wp2_with fail
    refine (D2'.out _).mono ?_
    rintro e w4 ⟨rfl, hb4⟩
    have hB := keepb (keepb (keepb hb1 hb2) hb3) hb4
    clear hb1 hb2 hb3 hb4
    go_wp2_with fail
    refine (awake_any _).mono ?_
    rintro e w5 ⟨rfl, hb5⟩
    have hB5 := keepb hB hb5
    clear hB hb5
    go_wp2_with fail
    refine (R1'.out _).mono ?_
    rintro e w6 ⟨rfl, rfl⟩
    go_wp2_with fail
    refine (R2'.out _).mono ?_
    rintro e w6 ⟨rfl, rfl⟩
    go_wp2_with fail
    go_ret
    exact ⟨rfl, hB5⟩
  · go_enter Try.func3, Try.ntmps3
    go_wp2_with fail
    refine (awake_any _).mono ?_
    rintro e w1 ⟨rfl, hb1⟩
    go_wp2_with fail
    go_ret
    exact ⟨rfl, hb1⟩
end Go.Proofs.Ytmheekoaklfffab
