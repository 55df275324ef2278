/- The walks of layer 4's functions. -/
import Derived.Test.YtgpglmponbipbaaChecked
import Derived.Test.YtgpglmponbipbaaShelf
import Derived.Test.YtgpglmponbipbaaSpotMath
import Derived.Test.YtgpglmponbipbaaQuiet
import Derived.WalkLawsBesides
import Derived.Handy
import Derived.KernelRfl
namespace Go.Proofs.Ytgpglmponbipbaa
set_option linter.unusedVariables false
open Go.RowKit Go.Sort Go.PlainAid

@[go_sem] theorem eq2 (a b c d : Int) (w : World) : (Op.equalIn 10000 23 (.agg #[.int .i64 a, .int .i64 b]) (.agg #[.int .i64 c, .int .i64 d])).run Try.prog w = .ok (a == c && b == d) w := by
  have u3 := Try.underlying3
  have a3 := Try.isAgg3
  have z3 := Try.sizeOf3
  have hS : Try.prog.underlying 23 = some (.struct (Try.prog.fieldsOf 23)) := by kernel_rfl
  have hp : Try.prog.stoodInHeld 23 = false := by kernel_rfl
  rw [show (10000 : Nat) = 9999 + 1 from rfl, run_equalIn_agg w 9999 23 _ _ hS hp]
  simp only [Program.fieldsOf, Try.underlying23]
  go_simp
  by_cases h1 : a = c <;> by_cases h2 : b = d <;> simp [h1, h2]

theorem ret_spot {a b c d : Int} (h1 : a = c) (h2 : b = d) : Ending.returned (.agg #[.int .i64 a, .int .i64 b]) = .returned (.agg #[.int .i64 c, .int .i64 d]) := by rw [h1, h2]

/-- The library's three searches, at a line feed: the number that each comes to is a letter. -/
theorem count_ten (s : ByteArray) (w : World) : Calls Try.prog 14 #[.string s, .string ⟨#[10]⟩] w fun e w' => e = .returned (.int .i64 (Lib.countByte s.data.toList 10 : Int)) ∧ w = w' :=
  (Try.strings_Count_one s 10 w).mono fun _ _ h => ⟨h.1, h.2.symm⟩
theorem index_ten (s : ByteArray) (w : World) : Calls Try.prog 13 #[.string s, .int .u8 10] w fun e w' => e = .returned (.int .i64 (Lib.indexByte s.data.toList 10)) ∧ w = w' :=
  (Try.strings_IndexByte s 10 w).mono fun _ _ h => ⟨h.1, h.2.symm⟩
theorem last_ten (s : ByteArray) (hs : s.size < 4611686018427387904) (w : World) : Calls Try.prog 15 #[.string s, .int .u8 10] w fun e w' => e = .returned (.int .i64 (Lib.lastIndexByte s 10)) ∧ w = w' :=
  (Try.strings_LastIndexByte s 10 hs w).mono fun _ _ h => ⟨h.1, h.2.symm⟩

set_option maxHeartbeats 400000 in
theorem lines_any (s : ByteArray) (hs : (s.size : Int) ≤ 1000) (w : World) : Calls Try.prog 11 #[.string s] w fun e w' => e = .returned (.int .i64 (ln s s.size : Int)) ∧ w = w' := by
  have H := Lib.hid (ln_all s)
  have hc : (Lib.countByte s.data.toList 10 : Int) ≤ 1001 := by have := ln_all s; have := ln_le s s.size; omega
  have C := Lib.hid (count_ten s)
  clear hs
  generalize Lib.countByte s.data.toList 10 = c at *
  go_enter Try.func11, Try.ntmps11
  go_wp2_with fail
  refine (C.out _).mono ?_
  rintro e w1 ⟨rfl, rfl⟩
  go_wp2_with fail
  go_ret
  exact ⟨ret_int H.out, rfl⟩

/-- The byte that is meant: none below 0, none beyond the end. -/
def within (s : ByteArray) (i : Int) : Nat := if i < 0 then 0 else if (s.size : Int) < i then s.size else i.toNat
theorem within_le (s : ByteArray) (i : Int) : within s i ≤ s.size := by unfold within; split <;> (try split) <;> omega

set_option maxHeartbeats 1600000 in
theorem of_any (s : ByteArray) (i : Int) (hs : (s.size : Int) ≤ 1000) (w : World) : Calls Try.prog 9 #[.string s, .int .i64 i] w fun e w' => e = .returned (.agg #[.int .i64 (ln s (within s i) : Int), .int .i64 (cl s (within s i) : Int)]) ∧ Below w.heap.size w w' := by
  obtain ⟨k, hk⟩ : ∃ k, within s i = k := ⟨_, rfl⟩
  have hks := within_le s i
  rw [hk] at hks ⊢
  have hm : (max 0 (min i (s.size : Int))).toNat = k := by
    rw [← hk]; unfold within
    split
    · omega
    · split <;> omega
  have hm2 : max 0 (min i (s.size : Int)) ≤ (s.size : Int) := by omega
  have hm3 : 0 ≤ max 0 (min i (s.size : Int)) := by omega
  have H1 := Lib.hid (ln_code s k hks)
  have H2 := Lib.hid (cl_code s k hks)
  have hz := Lib.hid (ext_size s k hks)
  have C := Lib.hid (count_ten (s.extract 0 k))
  have L := Lib.hid (last_ten (s.extract 0 k) (by have := hz.out; omega))
  have c1 : (Lib.countByte (s.extract 0 k).data.toList 10 : Int) ≤ 1001 := by have := ln_code s k hks; have := ln_le s k; omega
  have c2 : (k : Int) - Lib.lastIndexByte (s.extract 0 k) 10 ≤ 1001 := by have := cl_code s k hks; have := cl_le s k; omega
  have c3 : (1 : Int) ≤ (k : Int) - Lib.lastIndexByte (s.extract 0 k) 10 := by have := cl_code s k hks; have := cl_pos s k; omega
  have ck : (k : Int) ≤ 1000 := by omega
  generalize Lib.countByte (s.extract 0 k).data.toList 10 = c at *
  generalize Lib.lastIndexByte (s.extract 0 k) 10 = d at *
  have hM := Lib.hid hm
  have hZ := Lib.hid hz.out
  clear hk hz
  go_enter Try.func9, Try.ntmps9
  go_wp2_with fail
  refine (C.out _).mono ?_
  rintro e w1 ⟨rfl, rfl⟩
  go_wp2_with fail
  refine (L.out _).mono ?_
  rintro e w1 ⟨rfl, rfl⟩
  go_wp2_with fail
  go_returns
  exact ⟨ret_spot H1.out H2.out, by go_grown⟩
theorem lines_below (s : ByteArray) (hs : (s.size : Int) ≤ 1000) (w : World) : Calls Try.prog 11 #[.string s] w fun e w' => e = .returned (.int .i64 (ln s s.size : Int)) ∧ Below w.heap.size w w' :=
  (lines_any s hs w).mono fun _ _ h => ⟨h.1, h.2 ▸ Below.refl _ _⟩
end Go.Proofs.Ytgpglmponbipbaa
