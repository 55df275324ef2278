/- The document's examples of layer 3, walked. -/
import Derived.Test.YtinkgidncdjapaaQuoteZ
import Derived.Test.YtinkgidncdjapaaQuoteKP
import Derived.Test.YtinkgidncdjapaaRef01R
import Derived.Test.YtinkgidncdjapaaEq4
import Derived.Test.YtinkgidncdjapaaQuiet
namespace Go.Proofs.Ytinkgidncdjapaa
set_option linter.unusedVariables false
open Go.RowKit Go.Sort

theorem aw1 (w : World) : Calls Try.prog 7 #[.string ⟨#[120, 34, 97, 92, 110, 92, 120, 48, 48, 92, 117, 123, 101, 57, 125, 34, 121]⟩, .int .i64 1] w fun e w' => e = .returned (.tuple #[.string ⟨#[97, 10, 0, 195, 169]⟩, .int .i64 16, .bool true]) ∧ Below w.heap.size w w' := by
  have h := readtext_any ⟨#[120, 34, 97, 92, 110, 92, 120, 48, 48, 92, 117, 123, 101, 57, 125, 34, 121]⟩ (by decide) 1 w
  rw [show txtO ⟨#[120, 34, 97, 92, 110, 92, 120, 48, 48, 92, 117, 123, 101, 57, 125, 34, 121]⟩ 1 = some (⟨#[97, 10, 0, 195, 169]⟩, 16) from by decide +kernel] at h
  exact h
theorem aw2 (w : World) : Calls Try.prog 7 #[.string ⟨#[34, 34]⟩, .int .i64 0] w fun e w' => e = .returned (.tuple #[.string ⟨#[]⟩, .int .i64 0, .bool false]) ∧ Below w.heap.size w w' := by
  have h := readtext_any ⟨#[34, 34]⟩ (by decide) 0 w
  rw [show txtO ⟨#[34, 34]⟩ 0 = none from by decide +kernel] at h
  exact h
theorem aw3 (w : World) : Calls Try.prog 7 #[.string ⟨#[34, 92, 113, 34]⟩, .int .i64 0] w fun e w' => e = .returned (.tuple #[.string ⟨#[]⟩, .int .i64 0, .bool false]) ∧ Below w.heap.size w w' := by
  have h := readtext_any ⟨#[34, 92, 113, 34]⟩ (by decide) 0 w
  rw [show txtO ⟨#[34, 92, 113, 34]⟩ 0 = none from by decide +kernel] at h
  exact h
theorem aw4 (w : World) : Calls Try.prog 9 #[.string ⟨#[91, 97, 45, 99, 92, 93, 93]⟩, .int .i64 0] w fun e w' => e = .returned (.tuple #[.agg #[.int .u64 0, .int .u64 60666413056, .int .u64 0, .int .u64 0], .int .i64 7, .bool true]) ∧ Below w.heap.size w w' := by
  have h := readclass_any ⟨#[91, 97, 45, 99, 92, 93, 93]⟩ (by decide) 0 w
  rw [show clsO ⟨#[91, 97, 45, 99, 92, 93, 93]⟩ 0 = some ((0, 60666413056, 0, 0), 7) from by decide +kernel] at h
  exact h
theorem aw5 (w : World) : Calls Try.prog 9 #[.string ⟨#[91, 94, 92, 120, 48, 48, 45, 121, 93]⟩, .int .i64 0] w fun e w' => e = .returned (.tuple #[.agg #[.int .u64 0, .int .u64 18158513697557839872, .int .u64 18446744073709551615, .int .u64 18446744073709551615], .int .i64 9, .bool true]) ∧ Below w.heap.size w w' := by
  have h := readclass_any ⟨#[91, 94, 92, 120, 48, 48, 45, 121, 93]⟩ (by decide) 0 w
  rw [show clsO ⟨#[91, 94, 92, 120, 48, 48, 45, 121, 93]⟩ 0 = some ((0, 18158513697557839872, 18446744073709551615, 18446744073709551615), 9) from by decide +kernel] at h
  exact h
theorem aw6 (w : World) : Calls Try.prog 9 #[.string ⟨#[91, 93]⟩, .int .i64 0] w fun e w' => e = .returned (.tuple #[.agg #[.int .u64 0, .int .u64 0, .int .u64 0, .int .u64 0], .int .i64 0, .bool false]) ∧ Below w.heap.size w w' := by
  have h := readclass_any ⟨#[91, 93]⟩ (by decide) 0 w
  rw [show clsO ⟨#[91, 93]⟩ 0 = none from by decide +kernel] at h
  exact h
theorem aw7 (w : World) : Calls Try.prog 9 #[.string ⟨#[91, 98, 45, 97, 93]⟩, .int .i64 0] w fun e w' => e = .returned (.tuple #[.agg #[.int .u64 0, .int .u64 0, .int .u64 0, .int .u64 0], .int .i64 0, .bool false]) ∧ Below w.heap.size w w' := by
  have h := readclass_any ⟨#[91, 98, 45, 97, 93]⟩ (by decide) 0 w
  rw [show clsO ⟨#[91, 98, 45, 97, 93]⟩ 0 = none from by decide +kernel] at h
  exact h
theorem aw8 (w : World) : Calls Try.prog 16 #[.int .u8 97, .int .u8 99] w fun e w' => e = .returned (.agg #[.int .u64 0, .int .u64 60129542144, .int .u64 0, .int .u64 0]) ∧ Below w.heap.size w w' := by
  have h := rrange_any 97 99 (by decide) (by decide) w
  rw [show rowW 0 97 (99 + 1) = 0 from by decide +kernel, show rowW 1 97 (99 + 1) = 60129542144 from by decide +kernel, show rowW 2 97 (99 + 1) = 0 from by decide +kernel, show rowW 3 97 (99 + 1) = 0 from by decide +kernel] at h
  exact h
theorem aw9 (w : World) : Calls Try.prog 15 #[.agg #[.int .u64 0, .int .u64 60129542144, .int .u64 0, .int .u64 0], .int .u8 93] w fun e w' => e = .returned (.agg #[.int .u64 0, .int .u64 60666413056, .int .u64 0, .int .u64 0]) ∧ Below w.heap.size w w' := by
  have h := rwith_any 0 60129542144 0 0 93 (by decide) (by decide) (by decide) (by decide) (by decide) w
  rw [show withW 0 93 0 = 0 from by decide +kernel, show withW 60129542144 93 1 = 60666413056 from by decide +kernel, show withW 0 93 2 = 0 from by decide +kernel, show withW 0 93 3 = 0 from by decide +kernel] at h
  exact h
theorem aw10 (w : World) : Calls Try.prog 16 #[.int .u8 122, .int .u8 255] w fun e w' => e = .returned (.agg #[.int .u64 0, .int .u64 18158513697557839872, .int .u64 18446744073709551615, .int .u64 18446744073709551615]) ∧ Below w.heap.size w w' := by
  have h := rrange_any 122 255 (by decide) (by decide) w
  rw [show rowW 0 122 (255 + 1) = 0 from by decide +kernel, show rowW 1 122 (255 + 1) = 18158513697557839872 from by decide +kernel, show rowW 2 122 (255 + 1) = 18446744073709551615 from by decide +kernel, show rowW 3 122 (255 + 1) = 18446744073709551615 from by decide +kernel] at h
  exact h
theorem aw11 (w : World) : Calls Try.prog 16 #[.int .u8 0, .int .u8 255] w fun e w' => e = .returned (.agg #[.int .u64 18446744073709551615, .int .u64 18446744073709551615, .int .u64 18446744073709551615, .int .u64 18446744073709551615]) ∧ Below w.heap.size w w' := by
  have h := rrange_any 0 255 (by decide) (by decide) w
  rw [show rowW 0 0 (255 + 1) = 18446744073709551615 from by decide +kernel, show rowW 1 0 (255 + 1) = 18446744073709551615 from by decide +kernel, show rowW 2 0 (255 + 1) = 18446744073709551615 from by decide +kernel, show rowW 3 0 (255 + 1) = 18446744073709551615 from by decide +kernel] at h
  exact h
theorem aw12 (w : World) : Calls Try.prog 11 #[.string ⟨#[97, 34, 10, 255]⟩] w fun e w' => e = .returned (.string ⟨#[34, 97, 92, 34, 92, 110, 92, 120, 102, 102, 34]⟩) ∧ Below w.heap.size w w' := by
  have h := text_any ⟨#[97, 34, 10, 255]⟩ (by decide) w
  rw [show textS ⟨#[97, 34, 10, 255]⟩ = ⟨#[34, 97, 92, 34, 92, 110, 92, 120, 102, 102, 34]⟩ from by decide +kernel] at h
  exact h
theorem aw13 (w : World) : Calls Try.prog 13 #[.agg #[.int .u64 0, .int .u64 60666413056, .int .u64 0, .int .u64 0]] w fun e w' => e = .returned (.string ⟨#[91, 92, 93, 97, 45, 99, 93]⟩) ∧ Below w.heap.size w w' := by
  have h := class_any 0 60666413056 0 0 (by decide) (by decide) (by decide) (by decide) w
  rw [show classS (inSet 0 60666413056 0 0) = ⟨#[91, 92, 93, 97, 45, 99, 93]⟩ from by decide +kernel] at h
  exact h
theorem aw14 (w : World) : Calls Try.prog 13 #[.agg #[.int .u64 18446744073709551615, .int .u64 18446744073709551615, .int .u64 18446744073709551615, .int .u64 18446744073709551615]] w fun e w' => e = .returned (.string ⟨#[91, 92, 120, 48, 48, 45, 92, 120, 102, 102, 93]⟩) ∧ Below w.heap.size w w' := by
  have h := class_any 18446744073709551615 18446744073709551615 18446744073709551615 18446744073709551615 (by decide) (by decide) (by decide) (by decide) w
  rw [show classS (inSet 18446744073709551615 18446744073709551615 18446744073709551615 18446744073709551615) = ⟨#[91, 92, 120, 48, 48, 45, 92, 120, 102, 102, 93]⟩ from by decide +kernel] at h
  exact h

set_option maxRecDepth 1000000 in
set_option maxHeartbeats 6400000 in
theorem awake_any (w : World) : Calls Try.prog 6 #[] w fun e w' => e = .returned (.bool true) ∧ Below w.heap.size w w' := by
  go_enter Try.func6, Try.ntmps6
  go_wp2_with fail
  refine (aw1 _).mono ?_
  rintro e w1 ⟨rfl, hb1⟩
  have HB1 := Lib.hid hb1
  clear hb1
  have HA1 := HB1
  clear HB1
  go_wp2_with fail
  refine (aw2 _).mono ?_
  rintro e w2 ⟨rfl, hb2⟩
  have HB2 := Lib.hid (keepb HA1.out hb2)
  clear hb2 HA1
  have HA2 := HB2
  clear HB2
  go_wp2_with fail
  refine (aw3 _).mono ?_
  rintro e w3 ⟨rfl, hb3⟩
  have HB3 := Lib.hid (keepb HA2.out hb3)
  clear hb3 HA2
  have HA3 := HB3
  clear HB3
  go_wp2_with fail
  refine (aw4 _).mono ?_
  rintro e w4 ⟨rfl, hb4⟩
  have HB4 := Lib.hid (keepb HA3.out hb4)
  clear hb4 HA3
  have HA4 := Lib.hid (HB4.out.alloc HB4.out.size (.cells #[.int .u64 0, .int .u64 60666413056, .int .u64 0, .int .u64 0] 24))
  have HSA4 := Lib.hid (Own.fresh w4 24 [.int .u64 0, .int .u64 60666413056, .int .u64 0, .int .u64 0])
  go_wp2_with fail
  refine (aw5 _).mono ?_
  rintro e w5 ⟨rfl, hb5⟩
  have HB5 := Lib.hid (keepb HA4.out hb5)
  have HS5 := Lib.hid (HSA4.out.under hb5 HSA4.out.lt)
  clear hb5 HA4 HSA4
  have HA5 := Lib.hid (HB5.out.alloc HB5.out.size (.cells #[.int .u64 0, .int .u64 18158513697557839872, .int .u64 18446744073709551615, .int .u64 18446744073709551615] 24))
  have HSA5 := Lib.hid (HS5.out.on_alloc (.cells #[.int .u64 0, .int .u64 18158513697557839872, .int .u64 18446744073709551615, .int .u64 18446744073709551615] 24))
  have HUA5 := Lib.hid (Own.fresh w5 24 [.int .u64 0, .int .u64 18158513697557839872, .int .u64 18446744073709551615, .int .u64 18446744073709551615])
  go_wp2_with fail
  refine (aw6 _).mono ?_
  rintro e w6 ⟨rfl, hb6⟩
  have HB6 := Lib.hid (keepb HA5.out hb6)
  have HS6 := Lib.hid (HSA5.out.under hb6 HSA5.out.lt)
  have HU6 := Lib.hid (HUA5.out.under hb6 HUA5.out.lt)
  clear hb6 HA5 HSA5 HUA5
  have HA6 := Lib.hid (HB6.out.alloc HB6.out.size (.cells #[.int .u64 0, .int .u64 0, .int .u64 0, .int .u64 0] 24))
  have HSA6 := Lib.hid (HS6.out.on_alloc (.cells #[.int .u64 0, .int .u64 0, .int .u64 0, .int .u64 0] 24))
  have HUA6 := Lib.hid (HU6.out.on_alloc (.cells #[.int .u64 0, .int .u64 0, .int .u64 0, .int .u64 0] 24))
  go_wp2_with fail
  refine (aw7 _).mono ?_
  rintro e w7 ⟨rfl, hb7⟩
  have HB7 := Lib.hid (keepb HA6.out hb7)
  have HS7 := Lib.hid (HSA6.out.under hb7 HSA6.out.lt)
  have HU7 := Lib.hid (HUA6.out.under hb7 HUA6.out.lt)
  clear hb7 HA6 HSA6 HUA6
  have HA7 := Lib.hid (HB7.out.alloc HB7.out.size (.cells #[.int .u64 0, .int .u64 0, .int .u64 0, .int .u64 0] 24))
  have HSA7 := Lib.hid (HS7.out.on_alloc (.cells #[.int .u64 0, .int .u64 0, .int .u64 0, .int .u64 0] 24))
  have HUA7 := Lib.hid (HU7.out.on_alloc (.cells #[.int .u64 0, .int .u64 0, .int .u64 0, .int .u64 0] 24))
  go_wp2_with fail
  generalize w7.alloc _ = W at *
  have k0 := cell_regrown (HSA7.out.cell 0)
  have k1 := cell_regrown (HSA7.out.cell 1)
  have k2 := cell_regrown (HSA7.out.cell 2)
  have k3 := cell_regrown (HSA7.out.cell 3)
  have k4 := cell_regrown (HUA7.out.cell 0)
  have k5 := cell_regrown (HUA7.out.cell 1)
  have k6 := cell_regrown (HUA7.out.cell 2)
  have k7 := cell_regrown (HUA7.out.cell 3)
  refine wp_region_quiet_below (by kernel_rfl) (by kernel_rfl) ?_
  repeat (go_big_quiet_step (first
    | (go_at_call 16; first | (with_reducible exact Calls.regrown_of (aw8 _)) | (with_reducible exact Calls.regrown_of (aw10 _)) | (with_reducible exact Calls.regrown_of (aw11 _)))
    | (go_at_call 15; with_reducible exact Calls.regrown_of (aw9 _))
    | (go_at_call 11; with_reducible exact Calls.regrown_of (aw12 _))
    | (go_at_call 13; first | (with_reducible exact Calls.regrown_of (aw13 _)) | (with_reducible exact Calls.regrown_of (aw14 _)))))
  refine wpQuiet_nil ?_
  intro _ hw'
  obtain ⟨⟨dq, osq⟩, hw''⟩ := hw'
  subst hw''
  go_wp2
  go_ret
  exact ⟨rfl, keepb HA7.out (below_regrown W dq osq)⟩
end Go.Proofs.Ytinkgidncdjapaa
