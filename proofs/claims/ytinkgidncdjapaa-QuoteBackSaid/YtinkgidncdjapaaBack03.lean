/- The law QuoteBack, walked. -/
import Derived.Test.YtinkgidncdjapaaTells03
import Derived.Deep.QuietTactic
namespace Go.Proofs.Ytinkgidncdjapaa
set_option linter.unusedVariables false
open Go.RowKit Go.Sort

theorem text_le (s : ByteArray) : (textS s).size ≤ 4 * s.size + 2 := by rw [text_size]; have := wrT_len s s.size; omega
theorem class_le (h : Nat → Bool) : (classS h).size ≤ 2401 := by
  have h1 := clsL_len h
  unfold clsL at h1
  rw [cls_size]; simp at h1; omega

set_option maxRecDepth 1000000 in
set_option maxHeartbeats 12800000 in
theorem back_walk (s A B : ByteArray) (a b c d : Nat) (hx : fits (a, b, c, d)) (w : World) :
    Calls Try.prog 4 #[.string s, .agg #[.string A, .string B], .agg #[.int .u64 (a : Int), .int .u64 (b : Int), .int .u64 (c : Int), .int .u64 (d : Int)]] w fun e w' => e = .returned (.bool true) ∧ Below w.heap.size w w' := by
  have HP0 := Lib.hid ((Own.fresh w 33 [.string A, .string B]).on_alloc (.cells #[.int .u64 (a : Int), .int .u64 (b : Int), .int .u64 (c : Int), .int .u64 (d : Int)] 24))
  have HX0 := Lib.hid (Own.fresh' (w := w.alloc (.cells #[.string A, .string B] 33)) (g := w.heap.size + 1) (by simp) 24 [.int .u64 (a : Int), .int .u64 (b : Int), .int .u64 (c : Int), .int .u64 (d : Int)])
  have HB0 := Lib.hid (show Below w.heap.size w ((w.alloc (.cells #[.string A, .string B] 33)).alloc (.cells #[.int .u64 (a : Int), .int .u64 (b : Int), .int .u64 (c : Int), .int .u64 (d : Int)] 24)) from ((Below.refl _ _).alloc (Nat.le_refl _) _).alloc (by simp) _)
  have k0 : ((w.alloc (.cells #[.string A, .string B] 33)).alloc (.cells #[.int .u64 (a : Int), .int .u64 (b : Int), .int .u64 (c : Int), .int .u64 (d : Int)] 24)).cell? ⟨w.heap.size, 0, none⟩ = some (.string A) := HP0.out.cell 0
  have k1 : ((w.alloc (.cells #[.string A, .string B] 33)).alloc (.cells #[.int .u64 (a : Int), .int .u64 (b : Int), .int .u64 (c : Int), .int .u64 (d : Int)] 24)).cell? ⟨w.heap.size, 1, none⟩ = some (.string B) := HP0.out.cell 1
  by_cases h1 : (s.size : Int) ≤ 100
  · by_cases h2 : (A.size : Int) ≤ 50
    · by_cases h3 : (B.size : Int) ≤ 50
      · have CT := Lib.hid (fun W => text_any s (by omega) W)
        have CC := Lib.hid (fun W => class_any a b c d hx.1 hx.2.1 hx.2.2.1 hx.2.2.2 W)
        have hM := At.mid A (textS s) B
        have hT := txt_back hM
        have hN := At.mid A (classS (inS (a, b, c, d))) B
        have hC := cls_back hx hN
        have ht := text_le s
        have hu := class_le (inS (a, b, c, d))
        change (classS (inSet a b c d)).size ≤ 2401 at hu
        have CS := fun W => readclass_any (A ++ classS (inSet a b c d) ++ B) (by rw [ByteArray.size_append, ByteArray.size_append]; omega) (A.size : Int) W
        have CR := fun W => readtext_any (A ++ textS s ++ B) (by rw [ByteArray.size_append, ByteArray.size_append]; omega) (A.size : Int) W
        rw [hT] at CR
        rw [show clsO (A ++ classS (inSet a b c d) ++ B) (A.size : Int) = _ from hC] at CS
        change ∀ W, Calls Try.prog 9 _ W fun e w' => e = .returned (clsT (if (a, b, c, d) = set0 then none else some ((a, b, c, d), A.size + (classS (inSet a b c d)).size))) ∧ Below W.heap.size W w' at CS
        clear hM hT hN hC
        generalize textS s = t at *
        generalize classS (inSet a b c d) = u at *
        have ht2 : t.size ≤ 402 := by omega
        clear ht hx
        obtain ⟨bz, hz⟩ : ∃ bz, isZ a b c d = bz := ⟨_, rfl⟩
        by_cases g0 : s.size = 0
        · rw [if_pos (.inl g0)] at CR
          have CR := Lib.hid (fun W => show Calls Try.prog 7 #[.string (A ++ t ++ B), .int .i64 (A.size : Int)] W fun e w' => e = .returned (.tuple #[.string ⟨#[]⟩, .int .i64 0, .bool false]) ∧ Below W.heap.size W w' from CR W)
          have g1 : decide ((1 : Int) ≤ (s.size : Int)) = false := decide_eq_false (by omega)
          cases bz
          · rw [if_neg (isZ_no hz)] at CS
            have CS := Lib.hid (fun W => show Calls Try.prog 9 #[.string (A ++ u ++ B), .int .i64 (A.size : Int)] W fun e w' => e = .returned (.tuple #[.agg #[.int .u64 (a : Int), .int .u64 (b : Int), .int .u64 (c : Int), .int .u64 (d : Int)], .int .i64 ((A.size : Int) + u.size), .bool true]) ∧ Below W.heap.size W w' from by have h := CS W; rw [show clsT (some ((a, b, c, d), A.size + u.size)) = .tuple #[.agg #[.int .u64 (a : Int), .int .u64 (b : Int), .int .u64 (c : Int), .int .u64 (d : Int)], .int .i64 ((A.size : Int) + u.size), .bool true] from by simp [clsT]] at h; exact h)
            go_enter Try.func4, Try.ntmps4
            go_wp2_with fail
            go_quiet (fail)
            go_wp2_with fail
            refine (CT.out _).mono ?_
            rintro e w1 ⟨rfl, hb1⟩
            have HX1 := Lib.hid (HX0.out.on_drewN _ |>.under hb1 HX0.out.lt)
            have HB1 := Lib.hid (keepb (below_drewN HB0.out _) hb1)
            clear hb1 HX0 HB0 HP0 k0 k1
            go_wp2_with fail
            refine (CR.out _).mono ?_
            rintro e w2 ⟨rfl, hb2⟩
            have HX2 := Lib.hid (HX1.out.under hb2 HX1.out.lt)
            have HB2 := Lib.hid (keepb HB1.out hb2)
            clear hb2 HX1 HB1
            obtain ⟨x0, x1, x2, x3, -⟩ := HX2.out.four
            go_wp2_with fail
            refine (CC.out _).mono ?_
            rintro e w3 ⟨rfl, hb3⟩
            have HX3 := Lib.hid (HX2.out.under hb3 HX2.out.lt)
            have HB3 := Lib.hid (keepb HB2.out hb3)
            clear hb3 HX2 HB2 x0 x1 x2 x3
            go_wp2_with fail
            refine (CS.out _).mono ?_
            rintro e w4 ⟨rfl, hb4⟩
            have HX4 := Lib.hid ((HX3.out.under hb4 HX3.out.lt).on_alloc (.cells #[.int .u64 (a : Int), .int .u64 (b : Int), .int .u64 (c : Int), .int .u64 (d : Int)] 24))
            have HB4' := keepb HB3.out hb4
            have HB4 := Lib.hid (HB4'.alloc HB4'.size (.cells #[.int .u64 (a : Int), .int .u64 (b : Int), .int .u64 (c : Int), .int .u64 (d : Int)] 24))
            have HY4 := Lib.hid (Own.fresh w4 24 [.int .u64 (a : Int), .int .u64 (b : Int), .int .u64 (c : Int), .int .u64 (d : Int)])
            clear hb4 HX3 HB3 HB4'
            obtain ⟨x0, x1, x2, x3, -⟩ := HX4.out.four
            have hxl := HX4.out.lt
            go_wp2_with fail
            refine (awake_any _).mono ?_
            rintro e w5 ⟨rfl, hb5⟩
            have HX5 := Lib.hid (HX4.out.under hb5 HX4.out.lt)
            have HY5 := Lib.hid (HY4.out.under hb5 HY4.out.lt)
            have HB5 := Lib.hid (keepb HB4.out hb5)
            clear hb5 HX4 HY4 HB4 x0 x1 x2 x3
            obtain ⟨x0, x1, x2, x3, -⟩ := HX5.out.four
            obtain ⟨y0, y1, y2, y3, -⟩ := HY5.out.four
            go_wp2
            go_ret
            exact ⟨rfl, HB5.out⟩
          · obtain ⟨rfl, rfl, rfl, rfl⟩ : a = 0 ∧ b = 0 ∧ c = 0 ∧ d = 0 := by have h := isZ_yes hz; simpa [set0] using h
            rw [if_pos (show ((0, 0, 0, 0) : Set4) = set0 from rfl)] at CS
            have CS := Lib.hid (fun W => show Calls Try.prog 9 #[.string (A ++ u ++ B), .int .i64 (A.size : Int)] W fun e w' => e = .returned (.tuple #[.agg #[.int .u64 0, .int .u64 0, .int .u64 0, .int .u64 0], .int .i64 0, .bool false]) ∧ Below W.heap.size W w' from CS W)
            go_enter Try.func4, Try.ntmps4
            go_wp2_with fail
            go_quiet (fail)
            go_wp2_with fail
            refine (CT.out _).mono ?_
            rintro e w1 ⟨rfl, hb1⟩
            have HX1 := Lib.hid (HX0.out.on_drewN _ |>.under hb1 HX0.out.lt)
            have HB1 := Lib.hid (keepb (below_drewN HB0.out _) hb1)
            clear hb1 HX0 HB0 HP0 k0 k1
            go_wp2_with fail
            refine (CR.out _).mono ?_
            rintro e w2 ⟨rfl, hb2⟩
            have HX2 := Lib.hid (HX1.out.under hb2 HX1.out.lt)
            have HB2 := Lib.hid (keepb HB1.out hb2)
            clear hb2 HX1 HB1
            obtain ⟨x0, x1, x2, x3, -⟩ := HX2.out.four
            go_wp2_with fail
            refine (CC.out _).mono ?_
            rintro e w3 ⟨rfl, hb3⟩
            have HX3 := Lib.hid (HX2.out.under hb3 HX2.out.lt)
            have HB3 := Lib.hid (keepb HB2.out hb3)
            clear hb3 HX2 HB2 x0 x1 x2 x3
            go_wp2_with fail
            refine (CS.out _).mono ?_
            rintro e w4 ⟨rfl, hb4⟩
            have HX4 := Lib.hid ((HX3.out.under hb4 HX3.out.lt).on_alloc (.cells #[.int .u64 0, .int .u64 0, .int .u64 0, .int .u64 0] 24))
            have HB4' := keepb HB3.out hb4
            have HB4 := Lib.hid (HB4'.alloc HB4'.size (.cells #[.int .u64 0, .int .u64 0, .int .u64 0, .int .u64 0] 24))
            have HY4 := Lib.hid (Own.fresh w4 24 [.int .u64 0, .int .u64 0, .int .u64 0, .int .u64 0])
            clear hb4 HX3 HB3 HB4'
            obtain ⟨x0, x1, x2, x3, -⟩ := HX4.out.four
            have hxl := HX4.out.lt
            go_wp2_with fail
            refine (awake_any _).mono ?_
            rintro e w5 ⟨rfl, hb5⟩
            have HX5 := Lib.hid (HX4.out.under hb5 HX4.out.lt)
            have HY5 := Lib.hid (HY4.out.under hb5 HY4.out.lt)
            have HB5 := Lib.hid (keepb HB4.out hb5)
            clear hb5 HX4 HY4 HB4 x0 x1 x2 x3
            obtain ⟨x0, x1, x2, x3, -⟩ := HX5.out.four
            obtain ⟨y0, y1, y2, y3, -⟩ := HY5.out.four
            go_wp2
            go_ret
            exact ⟨rfl, HB5.out⟩
        · by_cases g4 : (s.size : Int) ≤ 40
          · rw [if_neg (by omega)] at CR
            have CR := Lib.hid (fun W => show Calls Try.prog 7 #[.string (A ++ t ++ B), .int .i64 (A.size : Int)] W fun e w' => e = .returned (.tuple #[.string s, .int .i64 ((A.size : Int) + t.size), .bool true]) ∧ Below W.heap.size W w' from by have h := CR W; rw [show txtT (some (s, A.size + t.size)) = .tuple #[.string s, .int .i64 ((A.size : Int) + t.size), .bool true] from by simp [txtT]] at h; exact h)
            have g1 : decide ((1 : Int) ≤ (s.size : Int)) = true := decide_eq_true (by omega)
            cases bz
            · rw [if_neg (isZ_no hz)] at CS
              have CS := Lib.hid (fun W => show Calls Try.prog 9 #[.string (A ++ u ++ B), .int .i64 (A.size : Int)] W fun e w' => e = .returned (.tuple #[.agg #[.int .u64 (a : Int), .int .u64 (b : Int), .int .u64 (c : Int), .int .u64 (d : Int)], .int .i64 ((A.size : Int) + u.size), .bool true]) ∧ Below W.heap.size W w' from by have h := CS W; rw [show clsT (some ((a, b, c, d), A.size + u.size)) = .tuple #[.agg #[.int .u64 (a : Int), .int .u64 (b : Int), .int .u64 (c : Int), .int .u64 (d : Int)], .int .i64 ((A.size : Int) + u.size), .bool true] from by simp [clsT]] at h; exact h)
              go_enter Try.func4, Try.ntmps4
              go_wp2_with fail
              go_quiet (fail)
              go_wp2_with fail
              refine (CT.out _).mono ?_
              rintro e w1 ⟨rfl, hb1⟩
              have HX1 := Lib.hid (HX0.out.on_drewN _ |>.under hb1 HX0.out.lt)
              have HB1 := Lib.hid (keepb (below_drewN HB0.out _) hb1)
              clear hb1 HX0 HB0 HP0 k0 k1
              go_wp2_with fail
              refine (CR.out _).mono ?_
              rintro e w2 ⟨rfl, hb2⟩
              have HX2 := Lib.hid (HX1.out.under hb2 HX1.out.lt)
              have HB2 := Lib.hid (keepb HB1.out hb2)
              clear hb2 HX1 HB1
              obtain ⟨x0, x1, x2, x3, -⟩ := HX2.out.four
              go_wp2_with fail
              refine (CC.out _).mono ?_
              rintro e w3 ⟨rfl, hb3⟩
              have HX3 := Lib.hid (HX2.out.under hb3 HX2.out.lt)
              have HB3 := Lib.hid (keepb HB2.out hb3)
              clear hb3 HX2 HB2 x0 x1 x2 x3
              go_wp2_with fail
              refine (CS.out _).mono ?_
              rintro e w4 ⟨rfl, hb4⟩
              have HX4 := Lib.hid ((HX3.out.under hb4 HX3.out.lt).on_alloc (.cells #[.int .u64 (a : Int), .int .u64 (b : Int), .int .u64 (c : Int), .int .u64 (d : Int)] 24))
              have HB4' := keepb HB3.out hb4
              have HB4 := Lib.hid (HB4'.alloc HB4'.size (.cells #[.int .u64 (a : Int), .int .u64 (b : Int), .int .u64 (c : Int), .int .u64 (d : Int)] 24))
              have HY4 := Lib.hid (Own.fresh w4 24 [.int .u64 (a : Int), .int .u64 (b : Int), .int .u64 (c : Int), .int .u64 (d : Int)])
              clear hb4 HX3 HB3 HB4'
              obtain ⟨x0, x1, x2, x3, -⟩ := HX4.out.four
              have hxl := HX4.out.lt
              go_wp2_with fail
              refine (awake_any _).mono ?_
              rintro e w5 ⟨rfl, hb5⟩
              have HX5 := Lib.hid (HX4.out.under hb5 HX4.out.lt)
              have HY5 := Lib.hid (HY4.out.under hb5 HY4.out.lt)
              have HB5 := Lib.hid (keepb HB4.out hb5)
              clear hb5 HX4 HY4 HB4 x0 x1 x2 x3
              obtain ⟨x0, x1, x2, x3, -⟩ := HX5.out.four
              obtain ⟨y0, y1, y2, y3, -⟩ := HY5.out.four
              go_wp2
              go_ret
              exact ⟨rfl, HB5.out⟩
            · obtain ⟨rfl, rfl, rfl, rfl⟩ : a = 0 ∧ b = 0 ∧ c = 0 ∧ d = 0 := by have h := isZ_yes hz; simpa [set0] using h
              rw [if_pos (show ((0, 0, 0, 0) : Set4) = set0 from rfl)] at CS
              have CS := Lib.hid (fun W => show Calls Try.prog 9 #[.string (A ++ u ++ B), .int .i64 (A.size : Int)] W fun e w' => e = .returned (.tuple #[.agg #[.int .u64 0, .int .u64 0, .int .u64 0, .int .u64 0], .int .i64 0, .bool false]) ∧ Below W.heap.size W w' from CS W)
              go_enter Try.func4, Try.ntmps4
              go_wp2_with fail
              go_quiet (fail)
              go_wp2_with fail
              refine (CT.out _).mono ?_
              rintro e w1 ⟨rfl, hb1⟩
              have HX1 := Lib.hid (HX0.out.on_drewN _ |>.under hb1 HX0.out.lt)
              have HB1 := Lib.hid (keepb (below_drewN HB0.out _) hb1)
              clear hb1 HX0 HB0 HP0 k0 k1
              go_wp2_with fail
              refine (CR.out _).mono ?_
              rintro e w2 ⟨rfl, hb2⟩
              have HX2 := Lib.hid (HX1.out.under hb2 HX1.out.lt)
              have HB2 := Lib.hid (keepb HB1.out hb2)
              clear hb2 HX1 HB1
              obtain ⟨x0, x1, x2, x3, -⟩ := HX2.out.four
              go_wp2_with fail
              refine (CC.out _).mono ?_
              rintro e w3 ⟨rfl, hb3⟩
              have HX3 := Lib.hid (HX2.out.under hb3 HX2.out.lt)
              have HB3 := Lib.hid (keepb HB2.out hb3)
              clear hb3 HX2 HB2 x0 x1 x2 x3
              go_wp2_with fail
              refine (CS.out _).mono ?_
              rintro e w4 ⟨rfl, hb4⟩
              have HX4 := Lib.hid ((HX3.out.under hb4 HX3.out.lt).on_alloc (.cells #[.int .u64 0, .int .u64 0, .int .u64 0, .int .u64 0] 24))
              have HB4' := keepb HB3.out hb4
              have HB4 := Lib.hid (HB4'.alloc HB4'.size (.cells #[.int .u64 0, .int .u64 0, .int .u64 0, .int .u64 0] 24))
              have HY4 := Lib.hid (Own.fresh w4 24 [.int .u64 0, .int .u64 0, .int .u64 0, .int .u64 0])
              clear hb4 HX3 HB3 HB4'
              obtain ⟨x0, x1, x2, x3, -⟩ := HX4.out.four
              have hxl := HX4.out.lt
              go_wp2_with fail
              refine (awake_any _).mono ?_
              rintro e w5 ⟨rfl, hb5⟩
              have HX5 := Lib.hid (HX4.out.under hb5 HX4.out.lt)
              have HY5 := Lib.hid (HY4.out.under hb5 HY4.out.lt)
              have HB5 := Lib.hid (keepb HB4.out hb5)
              clear hb5 HX4 HY4 HB4 x0 x1 x2 x3
              obtain ⟨x0, x1, x2, x3, -⟩ := HX5.out.four
              obtain ⟨y0, y1, y2, y3, -⟩ := HY5.out.four
              go_wp2
              go_ret
              exact ⟨rfl, HB5.out⟩
          · rw [if_pos (.inr (by omega))] at CR
            have CR := Lib.hid (fun W => show Calls Try.prog 7 #[.string (A ++ t ++ B), .int .i64 (A.size : Int)] W fun e w' => e = .returned (.tuple #[.string ⟨#[]⟩, .int .i64 0, .bool false]) ∧ Below W.heap.size W w' from CR W)
            have g1 : decide ((1 : Int) ≤ (s.size : Int)) = true := decide_eq_true (by omega)
            have g5 : decide ((s.size : Int) ≤ 40) = false := decide_eq_false g4
            cases bz
            · rw [if_neg (isZ_no hz)] at CS
              have CS := Lib.hid (fun W => show Calls Try.prog 9 #[.string (A ++ u ++ B), .int .i64 (A.size : Int)] W fun e w' => e = .returned (.tuple #[.agg #[.int .u64 (a : Int), .int .u64 (b : Int), .int .u64 (c : Int), .int .u64 (d : Int)], .int .i64 ((A.size : Int) + u.size), .bool true]) ∧ Below W.heap.size W w' from by have h := CS W; rw [show clsT (some ((a, b, c, d), A.size + u.size)) = .tuple #[.agg #[.int .u64 (a : Int), .int .u64 (b : Int), .int .u64 (c : Int), .int .u64 (d : Int)], .int .i64 ((A.size : Int) + u.size), .bool true] from by simp [clsT]] at h; exact h)
              go_enter Try.func4, Try.ntmps4
              go_wp2_with fail
              go_quiet (fail)
              go_wp2_with fail
              refine (CT.out _).mono ?_
              rintro e w1 ⟨rfl, hb1⟩
              have HX1 := Lib.hid (HX0.out.on_drewN _ |>.under hb1 HX0.out.lt)
              have HB1 := Lib.hid (keepb (below_drewN HB0.out _) hb1)
              clear hb1 HX0 HB0 HP0 k0 k1
              go_wp2_with fail
              refine (CR.out _).mono ?_
              rintro e w2 ⟨rfl, hb2⟩
              have HX2 := Lib.hid (HX1.out.under hb2 HX1.out.lt)
              have HB2 := Lib.hid (keepb HB1.out hb2)
              clear hb2 HX1 HB1
              obtain ⟨x0, x1, x2, x3, -⟩ := HX2.out.four
              go_wp2_with fail
              refine (CC.out _).mono ?_
              rintro e w3 ⟨rfl, hb3⟩
              have HX3 := Lib.hid (HX2.out.under hb3 HX2.out.lt)
              have HB3 := Lib.hid (keepb HB2.out hb3)
              clear hb3 HX2 HB2 x0 x1 x2 x3
              go_wp2_with fail
              refine (CS.out _).mono ?_
              rintro e w4 ⟨rfl, hb4⟩
              have HX4 := Lib.hid ((HX3.out.under hb4 HX3.out.lt).on_alloc (.cells #[.int .u64 (a : Int), .int .u64 (b : Int), .int .u64 (c : Int), .int .u64 (d : Int)] 24))
              have HB4' := keepb HB3.out hb4
              have HB4 := Lib.hid (HB4'.alloc HB4'.size (.cells #[.int .u64 (a : Int), .int .u64 (b : Int), .int .u64 (c : Int), .int .u64 (d : Int)] 24))
              have HY4 := Lib.hid (Own.fresh w4 24 [.int .u64 (a : Int), .int .u64 (b : Int), .int .u64 (c : Int), .int .u64 (d : Int)])
              clear hb4 HX3 HB3 HB4'
              obtain ⟨x0, x1, x2, x3, -⟩ := HX4.out.four
              have hxl := HX4.out.lt
              go_wp2_with fail
              refine (awake_any _).mono ?_
              rintro e w5 ⟨rfl, hb5⟩
              have HX5 := Lib.hid (HX4.out.under hb5 HX4.out.lt)
              have HY5 := Lib.hid (HY4.out.under hb5 HY4.out.lt)
              have HB5 := Lib.hid (keepb HB4.out hb5)
              clear hb5 HX4 HY4 HB4 x0 x1 x2 x3
              obtain ⟨x0, x1, x2, x3, -⟩ := HX5.out.four
              obtain ⟨y0, y1, y2, y3, -⟩ := HY5.out.four
              go_wp2
              go_ret
              exact ⟨rfl, HB5.out⟩
            · obtain ⟨rfl, rfl, rfl, rfl⟩ : a = 0 ∧ b = 0 ∧ c = 0 ∧ d = 0 := by have h := isZ_yes hz; simpa [set0] using h
              rw [if_pos (show ((0, 0, 0, 0) : Set4) = set0 from rfl)] at CS
              have CS := Lib.hid (fun W => show Calls Try.prog 9 #[.string (A ++ u ++ B), .int .i64 (A.size : Int)] W fun e w' => e = .returned (.tuple #[.agg #[.int .u64 0, .int .u64 0, .int .u64 0, .int .u64 0], .int .i64 0, .bool false]) ∧ Below W.heap.size W w' from CS W)
              go_enter Try.func4, Try.ntmps4
              go_wp2_with fail
              go_quiet (fail)
              go_wp2_with fail
              refine (CT.out _).mono ?_
              rintro e w1 ⟨rfl, hb1⟩
              have HX1 := Lib.hid (HX0.out.on_drewN _ |>.under hb1 HX0.out.lt)
              have HB1 := Lib.hid (keepb (below_drewN HB0.out _) hb1)
              clear hb1 HX0 HB0 HP0 k0 k1
              go_wp2_with fail
              refine (CR.out _).mono ?_
              rintro e w2 ⟨rfl, hb2⟩
              have HX2 := Lib.hid (HX1.out.under hb2 HX1.out.lt)
              have HB2 := Lib.hid (keepb HB1.out hb2)
              clear hb2 HX1 HB1
              obtain ⟨x0, x1, x2, x3, -⟩ := HX2.out.four
              go_wp2_with fail
              refine (CC.out _).mono ?_
              rintro e w3 ⟨rfl, hb3⟩
              have HX3 := Lib.hid (HX2.out.under hb3 HX2.out.lt)
              have HB3 := Lib.hid (keepb HB2.out hb3)
              clear hb3 HX2 HB2 x0 x1 x2 x3
              go_wp2_with fail
              refine (CS.out _).mono ?_
              rintro e w4 ⟨rfl, hb4⟩
              have HX4 := Lib.hid ((HX3.out.under hb4 HX3.out.lt).on_alloc (.cells #[.int .u64 0, .int .u64 0, .int .u64 0, .int .u64 0] 24))
              have HB4' := keepb HB3.out hb4
              have HB4 := Lib.hid (HB4'.alloc HB4'.size (.cells #[.int .u64 0, .int .u64 0, .int .u64 0, .int .u64 0] 24))
              have HY4 := Lib.hid (Own.fresh w4 24 [.int .u64 0, .int .u64 0, .int .u64 0, .int .u64 0])
              clear hb4 HX3 HB3 HB4'
              obtain ⟨x0, x1, x2, x3, -⟩ := HX4.out.four
              have hxl := HX4.out.lt
              go_wp2_with fail
              refine (awake_any _).mono ?_
              rintro e w5 ⟨rfl, hb5⟩
              have HX5 := Lib.hid (HX4.out.under hb5 HX4.out.lt)
              have HY5 := Lib.hid (HY4.out.under hb5 HY4.out.lt)
              have HB5 := Lib.hid (keepb HB4.out hb5)
              clear hb5 HX4 HY4 HB4 x0 x1 x2 x3
              obtain ⟨x0, x1, x2, x3, -⟩ := HX5.out.four
              obtain ⟨y0, y1, y2, y3, -⟩ := HY5.out.four
              go_wp2
              go_ret
              exact ⟨rfl, HB5.out⟩
      · go_enter Try.func4, Try.ntmps4
        go_wp2_with fail
        go_quiet (fail)
        go_wp2_with fail
        refine (awake_any _).mono ?_
        rintro e w9 ⟨rfl, hb9⟩
        go_wp2
        go_ret
        exact ⟨rfl, keepb (below_drewN HB0.out _) hb9⟩
    · go_enter Try.func4, Try.ntmps4
      go_wp2_with fail
      go_quiet (fail)
      go_wp2_with fail
      refine (awake_any _).mono ?_
      rintro e w9 ⟨rfl, hb9⟩
      go_wp2
      go_ret
      exact ⟨rfl, keepb (below_drewN HB0.out _) hb9⟩
  · go_enter Try.func4, Try.ntmps4
    go_wp2_with fail
    go_quiet (fail)
    go_wp2_with fail
    refine (awake_any _).mono ?_
    rintro e w9 ⟨rfl, hb9⟩
    go_wp2
    go_ret
    exact ⟨rfl, keepb (below_drewN HB0.out _) hb9⟩
end Go.Proofs.Ytinkgidncdjapaa
