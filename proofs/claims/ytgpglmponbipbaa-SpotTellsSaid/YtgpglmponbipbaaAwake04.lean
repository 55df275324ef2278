/- The document's examples of layer 4, walked. -/
import Derived.Test.YtgpglmponbipbaaRef04A
namespace Go.Proofs.Ytgpglmponbipbaa
set_option linter.unusedVariables false
open Go.RowKit Go.Sort Go.PlainAid

theorem of_v {s : ByteArray} {i : Int} {a b : Int} (hs : (s.size : Int) ≤ 1000) (h1 : (ln s (within s i) : Int) = a) (h2 : (cl s (within s i) : Int) = b) (w : World) : Calls Try.prog 9 #[.string s, .int .i64 i] w fun e w' => e = .returned (.agg #[.int .i64 a, .int .i64 b]) ∧ Below w.heap.size w w' := by
  subst h1; subst h2; exact of_any s i hs w
theorem at_v {s : ByteArray} {L C : Int} {V : Value} (hs : (s.size : Int) ≤ 1000) (hL : -9223372036854775808 ≤ L ∧ L ≤ 9223372036854775807) (hC : -9223372036854775808 ≤ C ∧ C ≤ 9223372036854775807) (h : atV s L C = V) (w : World) :
    Calls Try.prog 7 #[.string s, .agg #[.int .i64 L, .int .i64 C]] w fun e w' => e = .returned V ∧ Below w.heap.size w w' := h ▸ at_any s L C hs hL hC w
theorem lines_v {s : ByteArray} {a : Int} (hs : (s.size : Int) ≤ 1000) (h : (ln s s.size : Int) = a) (w : World) : Calls Try.prog 11 #[.string s] w fun e w' => e = .returned (.int .i64 a) ∧ w = w' := h ▸ lines_any s hs w

def S5 : ByteArray := ⟨#[97, 98, 10, 99, 100]⟩

set_option maxHeartbeats 2000000 in
theorem awake_any (w : World) : Calls Try.prog 6 #[] w fun e w' => e = .returned (.bool true) ∧ Below w.heap.size w w' := by
  have C1 := Lib.hid (at_v (s := ⟨#[97, 98, 10, 99, 100]⟩) (L := 2) (C := 2) (V := .tuple #[.int .i64 4, .bool true]) (by decide) (by omega) (by omega) (by kernel_rfl))
  have C2 := Lib.hid (at_v (s := ⟨#[97, 98, 10, 99, 100]⟩) (L := 1) (C := 4) (V := .tuple #[.int .i64 0, .bool false]) (by decide) (by omega) (by omega) (by kernel_rfl))
  have C3 := Lib.hid (of_v (s := ⟨#[97, 98, 10, 99, 100]⟩) (i := 0) (a := 1) (b := 1) (by decide) (by kernel_rfl) (by kernel_rfl))
  have C4 := Lib.hid (of_v (s := ⟨#[97, 98, 10, 99, 100]⟩) (i := 3) (a := 2) (b := 1) (by decide) (by kernel_rfl) (by kernel_rfl))
  have C5 := Lib.hid (of_v (s := ⟨#[97, 98, 10, 99, 100]⟩) (i := 99) (a := 2) (b := 3) (by decide) (by kernel_rfl) (by kernel_rfl))
  have C6 := Lib.hid (of_v (s := ⟨#[97, 98, 10, 99, 100]⟩) (i := -1) (a := 1) (b := 1) (by decide) (by kernel_rfl) (by kernel_rfl))
  have C7 := Lib.hid (lines_v (s := ⟨#[97, 98, 10, 99, 100]⟩) (a := 2) (by decide) (by kernel_rfl))
  have C8 := Lib.hid (lines_v (s := ⟨#[]⟩) (a := 1) (by decide) (by kernel_rfl))
  go_enter Try.func6, Try.ntmps6
  go_wp2_with fail
  refine (C1.out _).mono ?_
  rintro e w1 ⟨rfl, hb1⟩
  go_wp2_with fail
  refine (C2.out _).mono ?_
  rintro e w2 ⟨rfl, hb2⟩
  go_wp2_with fail
  refine (C3.out _).mono ?_
  rintro e w3 ⟨rfl, hb3⟩
  go_wp2_with fail
  refine (C4.out _).mono ?_
  rintro e w4 ⟨rfl, hb4⟩
  go_wp2_with fail
  refine (C5.out _).mono ?_
  rintro e w5 ⟨rfl, hb5⟩
  go_wp2_with fail
  refine (C6.out _).mono ?_
  rintro e w6 ⟨rfl, hb6⟩
  go_wp2_with fail
  refine (C7.out _).mono ?_
  rintro e w7 ⟨rfl, rfl⟩
  go_wp2_with fail
  refine (C8.out _).mono ?_
  rintro e w8 ⟨rfl, rfl⟩
  have hB := keepb (keepb (keepb (keepb (keepb hb1 hb2) hb3) hb4) hb5) hb6
  clear hb1 hb2 hb3 hb4 hb5 hb6
  go_wp2_with fail
  go_ret
  exact ⟨rfl, hB⟩
end Go.Proofs.Ytgpglmponbipbaa
