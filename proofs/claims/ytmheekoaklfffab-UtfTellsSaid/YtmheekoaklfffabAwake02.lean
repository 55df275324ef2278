/- The document's examples of layer 2, walked. -/
import Derived.Test.YtmheekoaklfffabUtfD
namespace Go.Proofs.Ytmheekoaklfffab
set_option linter.unusedVariables false
open Go.RowKit Go.Sort Go.PlainAid

theorem encode_v {n : Int} {x : ByteArray} {v : Bool} (h : encS n = x) (hv : rightB n = v) (w : World) : Calls Try.prog 7 #[.int .i64 n] w fun e w' => e = .returned (.tuple #[.string x, .bool v]) ∧ Below w.heap.size w w' := by
  subst h; subst hv; exact encode_any n w
theorem decode_v {s : ByteArray} {v : Value} (hs : s.size ≤ maxLen) (h : decV s = v) (w : World) : Calls Try.prog 9 #[.string s] w fun e w' => e = .returned v ∧ Below w.heap.size w w' := h ▸ decode_any s hs w

set_option maxHeartbeats 2000000 in
theorem awake_any (w : World) : Calls Try.prog 6 #[] w fun e w' => e = .returned (.bool true) ∧ Below w.heap.size w w' := by
  have C1 := Lib.hid (encode_v (n := 233) (x := ⟨#[195, 169]⟩) (v := true) (by kernel_rfl) (by decide))
  have C2 := Lib.hid (encode_v (n := 128512) (x := ⟨#[240, 159, 152, 128]⟩) (v := true) (by kernel_rfl) (by decide))
  have C3 := Lib.hid (encode_v (n := 55296) (x := ⟨#[]⟩) (v := false) (by kernel_rfl) (by decide))
  have C4 := Lib.hid (decode_v (s := ⟨#[195, 169]⟩ ++ ⟨#[120]⟩) (v := .tuple #[.int .i64 233, .int .i64 2, .bool true]) (by decide) (by kernel_rfl))
  have C5 := Lib.hid (decode_v (s := ⟨#[128]⟩) (v := .tuple #[.int .i64 0, .int .i64 0, .bool false]) (by decide) (by kernel_rfl))
  have C6 := Lib.hid (decode_v (s := ⟨#[]⟩) (v := .tuple #[.int .i64 0, .int .i64 0, .bool false]) (by decide) (by kernel_rfl))
  have C7 := Lib.hid (decode_v (s := ⟨#[192, 128]⟩) (v := .tuple #[.int .i64 0, .int .i64 0, .bool false]) (by decide) (by kernel_rfl))
  have R1 := right_any 1114111
  have R2 := right_any 1114112
  have R3 := right_any (-1)
  rw [show rightB 1114111 = true from by decide] at R1
  rw [show rightB 1114112 = false from by decide] at R2
  rw [show rightB (-1) = false from by decide] at R3
  have R1' := Lib.hid R1
  have R2' := Lib.hid R2
  have R3' := Lib.hid R3
  clear R1 R2 R3
  go_enter Try.func6, Try.ntmps6
  go_wp2_with fail
  refine (C1.out _).mono ?_
  rintro e w1 ⟨rfl, hb1⟩
  go_wp2_with fail
  refine (C2.out _).mono ?_
  rintro e w2 ⟨rfl, hb2⟩
  go_wp2_with fail
  refine (C3.out _).mono ?_
  rintro e w3 ⟨rfl, hb3⟩
  go_wp2_with fail
  refine (C4.out _).mono ?_
  rintro e w4 ⟨rfl, hb4⟩
  go_wp2_with fail
  refine (C5.out _).mono ?_
  rintro e w5 ⟨rfl, hb5⟩
  go_wp2_with fail
  refine (C6.out _).mono ?_
  rintro e w6 ⟨rfl, hb6⟩
  go_wp2_with fail
  refine (C7.out _).mono ?_
  rintro e w7 ⟨rfl, hb7⟩
  have hB := keepb (keepb (keepb (keepb (keepb (keepb hb1 hb2) hb3) hb4) hb5) hb6) hb7
  clear hb1 hb2 hb3 hb4 hb5 hb6 hb7
  go_wp2_with (first
    | (go_at_call 11; first
        | ((with_reducible refine (R1'.out _).mono ?_); rintro e wc ⟨rfl, rfl⟩)
        | ((with_reducible refine (R2'.out _).mono ?_); rintro e wc ⟨rfl, rfl⟩)
        | ((with_reducible refine (R3'.out _).mono ?_); rintro e wc ⟨rfl, rfl⟩)))
  go_ret
  exact ⟨rfl, hB⟩
end Go.Proofs.Ytmheekoaklfffab
