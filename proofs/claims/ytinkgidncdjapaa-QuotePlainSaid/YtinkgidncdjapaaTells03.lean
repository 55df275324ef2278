/- The law QuoteTells, walked. -/
import Derived.Test.YtinkgidncdjapaaAwake03
import Derived.Test.YtinkgidncdjapaaQuoteY
import Derived.Test.YtinkgidncdjapaaQuoteKR
namespace Go.Proofs.Ytinkgidncdjapaa
set_option linter.unusedVariables false
open Go.RowKit Go.Sort

theorem txtT_form (o : Option (ByteArray × Nat)) : ∃ (t : ByteArray) (n : Nat) (b : Bool), txtT o = .tuple #[.string t, .int .i64 (n : Int), .bool b] := by
  cases o with
  | none => exact ⟨_, 0, _, rfl⟩
  | some p => exact ⟨_, p.2, _, rfl⟩
theorem clsT_form (o : Option (Set4 × Nat)) : ∃ (a b c d n : Nat) (q : Bool), clsT o = .tuple #[.agg #[.int .u64 (a : Int), .int .u64 (b : Int), .int .u64 (c : Int), .int .u64 (d : Int)], .int .i64 (n : Int), .bool q] := by
  cases o with
  | none => exact ⟨0, 0, 0, 0, 0, _, rfl⟩
  | some p => exact ⟨p.1.1, p.1.2.1, p.1.2.2.1, p.1.2.2.2, p.2, _, rfl⟩

set_option maxRecDepth 1000000 in
set_option maxHeartbeats 6400000 in
theorem tells_walk (s : ByteArray) (a b c d : Nat) (hx : fits (a, b, c, d)) (i : Int) (w : World) :
    Calls Try.prog 3 #[.string s, .agg #[.int .u64 (a : Int), .int .u64 (b : Int), .int .u64 (c : Int), .int .u64 (d : Int)], .int .i64 i] w fun e w' => e = .returned (.bool true) ∧ Below w.heap.size w w' := by
  have HO0 := Lib.hid (Own.fresh w 24 [.int .u64 (a : Int), .int .u64 (b : Int), .int .u64 (c : Int), .int .u64 (d : Int)])
  have HB0 := Lib.hid (show Below w.heap.size w (w.alloc (.cells #[.int .u64 (a : Int), .int .u64 (b : Int), .int .u64 (c : Int), .int .u64 (d : Int)] 24)) from (Below.refl _ _).alloc (Nat.le_refl _) _)
  by_cases hs : (s.size : Int) ≤ 200
  · obtain ⟨t, n, p, ht⟩ := txtT_form (txtO s i)
    obtain ⟨y0, y1, y2, y3, m, q, hc⟩ := clsT_form (clsO s i)
    have C1 := Lib.hid (fun W => readtext_any s (by omega) i W)
    have C2 := Lib.hid (fun W => rreadtext_any s (by omega) i W)
    have C3 := Lib.hid (fun W => readclass_any s (by omega) i W)
    have C4 := Lib.hid (fun W => rreadclass_any s (by omega) i W)
    have C5 := Lib.hid (fun W => text_any s (by omega) W)
    have C6 := Lib.hid (fun W => rtext_any s (by omega) W)
    have C7 := Lib.hid (fun W => class_any a b c d hx.1 hx.2.1 hx.2.2.1 hx.2.2.2 W)
    have C8 := Lib.hid (fun W => rclass_any a b c d hx.1 hx.2.1 hx.2.2.1 hx.2.2.2 W)
    rw [ht] at C1 C2
    rw [hc] at C3 C4
    generalize textS s = u1 at *
    generalize classS (inSet a b c d) = u2 at *
    clear ht hc hx
    go_enter Try.func3, Try.ntmps3
    go_wp2_with fail
    refine (C1.out _).mono ?_
    rintro e w1 ⟨rfl, hb1⟩
    have HO1 := Lib.hid (HO0.out.under hb1 HO0.out.lt)
    have HB1 := Lib.hid (keepb HB0.out hb1)
    clear hb1 HO0 HB0
    go_wp2_with fail
    refine (C2.out _).mono ?_
    rintro e w2 ⟨rfl, hb2⟩
    have HO2 := Lib.hid (HO1.out.under hb2 HO1.out.lt)
    have HB2 := Lib.hid (keepb HB1.out hb2)
    clear hb2 HO1 HB1
    go_wp2_with fail
    refine (C3.out _).mono ?_
    rintro e w3 ⟨rfl, hb3⟩
    have HO3 := Lib.hid ((HO2.out.under hb3 HO2.out.lt).on_alloc (.cells #[.int .u64 (y0 : Int), .int .u64 (y1 : Int), .int .u64 (y2 : Int), .int .u64 (y3 : Int)] 24))
    have HB3' := keepb HB2.out hb3
    have HB3 := Lib.hid (HB3'.alloc HB3'.size (.cells #[.int .u64 (y0 : Int), .int .u64 (y1 : Int), .int .u64 (y2 : Int), .int .u64 (y3 : Int)] 24))
    have HX3 := Lib.hid (Own.fresh w3 24 [.int .u64 (y0 : Int), .int .u64 (y1 : Int), .int .u64 (y2 : Int), .int .u64 (y3 : Int)])
    clear hb3 HO2 HB2 HB3'
    go_wp2_with fail
    refine (C4.out _).mono ?_
    rintro e w4 ⟨rfl, hb4⟩
    have HO4 := Lib.hid ((HO3.out.under hb4 HO3.out.lt).on_alloc (.cells #[.int .u64 (y0 : Int), .int .u64 (y1 : Int), .int .u64 (y2 : Int), .int .u64 (y3 : Int)] 24))
    have HX4 := Lib.hid ((HX3.out.under hb4 HX3.out.lt).on_alloc (.cells #[.int .u64 (y0 : Int), .int .u64 (y1 : Int), .int .u64 (y2 : Int), .int .u64 (y3 : Int)] 24))
    have HB4' := keepb HB3.out hb4
    have HB4 := Lib.hid (HB4'.alloc HB4'.size (.cells #[.int .u64 (y0 : Int), .int .u64 (y1 : Int), .int .u64 (y2 : Int), .int .u64 (y3 : Int)] 24))
    have HY4 := Lib.hid (Own.fresh w4 24 [.int .u64 (y0 : Int), .int .u64 (y1 : Int), .int .u64 (y2 : Int), .int .u64 (y3 : Int)])
    clear hb4 HO3 HB3 HX3 HB4'
    go_wp2_with fail
    generalize w4.alloc _ = W at *
    have k0 := cell_regrown (HO4.out.cell 0)
    have k1 := cell_regrown (HO4.out.cell 1)
    have k2 := cell_regrown (HO4.out.cell 2)
    have k3 := cell_regrown (HO4.out.cell 3)
    have k4 := cell_regrown (HX4.out.cell 0)
    have k5 := cell_regrown (HX4.out.cell 1)
    have k6 := cell_regrown (HX4.out.cell 2)
    have k7 := cell_regrown (HX4.out.cell 3)
    have l0 := cell_regrown (HY4.out.cell 0)
    have l1 := cell_regrown (HY4.out.cell 1)
    have l2 := cell_regrown (HY4.out.cell 2)
    have l3 := cell_regrown (HY4.out.cell 3)
    refine wp_region_quiet_below (by kernel_rfl) (by kernel_rfl) ?_
    repeat (go_big_quiet_step (first
      | (go_at_call 6; with_reducible exact Calls.regrown_of (awake_any _))
      | (go_at_call 11; with_reducible exact Calls.regrown_of (C5.out _))
      | (go_at_call 12; with_reducible exact Calls.regrown_of (C6.out _))
      | (go_at_call 13; with_reducible exact Calls.regrown_of (C7.out _))
      | (go_at_call 14; with_reducible exact Calls.regrown_of (C8.out _))))
    refine wpQuiet_nil ?_
    intro _ hw'
    obtain ⟨⟨dq, osq⟩, hw''⟩ := hw'
    subst hw''
    go_wp2
    go_ret
    exact ⟨rfl, keepb HB4.out (below_regrown W dq osq)⟩
  · go_enter Try.func3, Try.ntmps3
    go_wp2_with fail
    refine (awake_any _).mono ?_
    rintro e w9 ⟨rfl, hb9⟩
    go_wp2
    go_ret
    exact ⟨rfl, keepb HB0.out hb9⟩
end Go.Proofs.Ytinkgidncdjapaa
