/- The law QuotePlain, walked. -/
import Derived.Test.YtinkgidncdjapaaBack03
namespace Go.Proofs.Ytinkgidncdjapaa
set_option linter.unusedVariables false
open Go.RowKit Go.Sort

theorem both_bytes {s : ByteArray} {h : Nat → Bool} {k : Nat} (hk : k < (textS s ++ classS h).size) : 32 ≤ byt (textS s ++ classS h) k ∧ byt (textS s ++ classS h) k ≤ 126 := by
  have hk' : k < (textS s ++ classS h).data.toList.length := by simpa using hk
  have hm : (textS s ++ classS h).data.toList[k] ∈ (textS s ++ classS h).data.toList := List.getElem_mem hk'
  have key : ∀ x ∈ (textS s ++ classS h).data.toList, 32 ≤ x.toNat ∧ x.toNat ≤ 126 := by
    rw [ByteArray.data_append, Array.toList_append]
    intro x hx
    rcases List.mem_append.1 hx with g | g
    · exact txt_bytes s x g
    · exact cls_bytes h x g
  have := key _ hm
  unfold byt
  rw [List.getD_eq_getElem?_getD, List.getElem?_eq_getElem hk']
  simp only [Option.getD_some]
  omega

set_option maxRecDepth 1000000 in
set_option maxHeartbeats 12800000 in
theorem plain_walk (s : ByteArray) (a b c d : Nat) (hx : fits (a, b, c, d)) (j : Nat) (hj : j < 256) (w : World) :
    Calls Try.prog 5 #[.string s, .agg #[.int .u64 (a : Int), .int .u64 (b : Int), .int .u64 (c : Int), .int .u64 (d : Int)], .int .u8 (j : Int)] w fun e w' => e = .returned (.bool true) ∧ Below w.heap.size w w' := by
  have HO0 := Lib.hid (Own.fresh w 24 [.int .u64 (a : Int), .int .u64 (b : Int), .int .u64 (c : Int), .int .u64 (d : Int)])
  have HB0 := Lib.hid (show Below w.heap.size w (w.alloc (.cells #[.int .u64 (a : Int), .int .u64 (b : Int), .int .u64 (c : Int), .int .u64 (d : Int)] 24)) from (Below.refl _ _).alloc (Nat.le_refl _) _)
  by_cases hs : (s.size : Int) ≤ 200
  · have C5 := Lib.hid (fun W => text_any s (by omega) W)
    have C7 := Lib.hid (fun W => class_any a b c d hx.1 hx.2.1 hx.2.2.1 hx.2.2.2 W)
    have HBY := Lib.hid (fun k hk => both_bytes (s := s) (h := inSet a b c d) (k := k) hk)
    have hu1 : (textS s).size ≤ 802 := by have := text_le s; omega
    have hu2 := class_le (inSet a b c d)
    generalize textS s = u1 at *
    generalize classS (inSet a b c d) = u2 at *
    have hu : (u1 ++ u2).size ≤ 4000 := by rw [ByteArray.size_append]; omega
    clear hx
    go_enter Try.func5, Try.ntmps5
    go_wp2_with fail
    have k0 := cell_regrown (HO0.out.cell 0)
    have k1 := cell_regrown (HO0.out.cell 1)
    have k2 := cell_regrown (HO0.out.cell 2)
    have k3 := cell_regrown (HO0.out.cell 3)
    generalize w.alloc _ = W at *
    refine wp_region_quiet_below (by kernel_rfl) (by kernel_rfl) ?_
    repeat (go_big_quiet_step (first
      | (go_at_call 11; with_reducible exact Calls.regrown_of (C5.out _))
      | (go_at_call 13; with_reducible exact Calls.regrown_of (C7.out _))))
    refine wpQuiet_nil ?_
    intro _ hw'
    obtain ⟨⟨dq, osq⟩, hw''⟩ := hw'
    subst hw''
    have HB1 := Lib.hid (keepb HB0.out (below_regrown W dq osq))
    clear k0 k1 k2 k3 HO0 HB0 C5 C7
    generalize grow _ _ = W1 at *
    generalize u1 ++ u2 = t at *
    clear hu1 hu2
    go_wp2_with fail
    go_loop [8] (fun b8 => ∃ k : Nat, b8 = .int .i64 (k : Int) ∧ k ≤ t.size) (fun b8 => t.size - (intOf b8).toNat)
    case atStart => exact ⟨0, rfl, Nat.zero_le _⟩
    case round =>
      obtain ⟨k, rfl, hk⟩ := hrel
      by_cases hlt : k < t.size
      · obtain ⟨z, hz⟩ : ∃ z : Int, (t[k].toNat : Int) = z := ⟨_, rfl⟩
        have hzz := HBY.out k hlt
        rw [byt_get hlt, hz] at hzz
        obtain ⟨hz1, hz2⟩ := hzz
        go_wp2
        go_round
        case rel => exact ⟨k + 1, by go_num, by omega⟩
        case measure => simp [intOf]; omega
      · obtain rfl : k = t.size := by omega
        clear HBY
        cases htx : txtO s (j : Int) with
        | none =>
          have CR := Lib.hid (fun W => show Calls Try.prog 7 #[.string s, .int .i64 (j : Int)] W fun e w' => e = .returned (.tuple #[.string ⟨#[]⟩, .int .i64 0, .bool false]) ∧ Below W.heap.size W w' from by have h := readtext_any s (by omega) (j : Int) W; rw [htx] at h; exact h)
          clear htx
          cases hcl : clsO s (j : Int) with
          | none =>
            have CS := Lib.hid (fun W => show Calls Try.prog 9 #[.string s, .int .i64 (j : Int)] W fun e w' => e = .returned (.tuple #[.agg #[.int .u64 0, .int .u64 0, .int .u64 0, .int .u64 0], .int .i64 0, .bool false]) ∧ Below W.heap.size W w' from by have h := readclass_any s (by omega) (j : Int) W; rw [hcl] at h; exact h)
            clear hcl
            go_wp2_with fail
            refine (CR.out _).mono ?_
            rintro e w2 ⟨rfl, hb⟩
            have HB2 := Lib.hid (keepb HB1.out hb)
            clear hb HB1
            go_wp2_with fail
            refine (CS.out _).mono ?_
            rintro e w3 ⟨rfl, hb⟩
            have HB' := keepb HB2.out hb
            have HB3 := Lib.hid (HB'.alloc HB'.size (.cells #[.int .u64 0, .int .u64 0, .int .u64 0, .int .u64 0] 24))
            clear hb HB2 HB'
            go_wp2_with fail
            refine (awake_any _).mono ?_
            rintro e w4 ⟨rfl, hb⟩
            go_wp2
            go_ret
            exact ⟨rfl, keepb HB3.out hb⟩
          | some p =>
            obtain ⟨⟨y0, y1, y2, y3⟩, m⟩ := p
            obtain ⟨r1, r2, r3, r4, r5⟩ := clsO_res hcl
            obtain ⟨n1, rfl⟩ : ∃ n1, m = n1 + 1 := ⟨m - 1, by omega⟩
            rw [Nat.add_sub_cancel] at r3
            have n1lt : n1 < s.size := by omega
            have hsn : (s[n1].toNat : Int) = 93 := by rw [← byt_get n1lt, r3]
            have n1le : ((n1 : Int) + 1) ≤ s.size := by omega
            have n1ge : (j : Int) < (n1 : Int) + 1 := by omega
            have hb2 := cls_back r4 (At.self (classS (inS (y0, y1, y2, y3))))
            rw [if_neg r5, Nat.zero_add] at hb2
            have CS := Lib.hid (fun W => show Calls Try.prog 9 #[.string s, .int .i64 (j : Int)] W fun e w' => e = .returned (.tuple #[.agg #[.int .u64 (y0 : Int), .int .u64 (y1 : Int), .int .u64 (y2 : Int), .int .u64 (y3 : Int)], .int .i64 ((n1 : Int) + 1), .bool true]) ∧ Below W.heap.size W w' from by have h := readclass_any s (by omega) (j : Int) W; rw [hcl] at h; exact h)
            have CC1 := Lib.hid (fun W => class_any y0 y1 y2 y3 r4.1 r4.2.1 r4.2.2.1 r4.2.2.2 W)
            have CS1 := fun W => readclass_any (classS (inSet y0 y1 y2 y3)) (by have := class_le (inSet y0 y1 y2 y3); omega) 0 W
            rw [show clsO (classS (inSet y0 y1 y2 y3)) 0 = _ from hb2] at CS1
            change ∀ W, Calls Try.prog 9 #[.string (classS (inSet y0 y1 y2 y3)), .int .i64 0] W fun e w' => e = .returned (.tuple #[.agg #[.int .u64 (y0 : Int), .int .u64 (y1 : Int), .int .u64 (y2 : Int), .int .u64 (y3 : Int)], .int .i64 ((classS (inSet y0 y1 y2 y3)).size : Int), .bool true]) ∧ Below W.heap.size W w' at CS1
            generalize classS (inSet y0 y1 y2 y3) = v at *
            have CS1 := Lib.hid CS1
            clear hcl r1 r2 r3 r4 r5 hb2
            go_wp2_with fail
            refine (CR.out _).mono ?_
            rintro e w2 ⟨rfl, hb⟩
            have HB2 := Lib.hid (keepb HB1.out hb)
            clear hb HB1
            go_wp2_with fail
            refine (CS.out _).mono ?_
            rintro e w3 ⟨rfl, hb⟩
            have HB' := keepb HB2.out hb
            have HB3 := Lib.hid (HB'.alloc HB'.size (.cells #[.int .u64 (y0 : Int), .int .u64 (y1 : Int), .int .u64 (y2 : Int), .int .u64 (y3 : Int)] 24))
            have HX3 := Lib.hid (Own.fresh w3 24 [.int .u64 (y0 : Int), .int .u64 (y1 : Int), .int .u64 (y2 : Int), .int .u64 (y3 : Int)])
            clear hb HB2 HB'
            go_wp2_with fail
            refine (CC1.out _).mono ?_
            rintro e w4 ⟨rfl, hb⟩
            have HB4 := Lib.hid (keepb HB3.out hb)
            have HX4 := Lib.hid (HX3.out.under hb HX3.out.lt)
            clear hb HB3 HX3
            go_wp2_with fail
            refine (CS1.out _).mono ?_
            rintro e w5 ⟨rfl, hb⟩
            have HB' := keepb HB4.out hb
            have HB5 := Lib.hid (HB'.alloc HB'.size (.cells #[.int .u64 (y0 : Int), .int .u64 (y1 : Int), .int .u64 (y2 : Int), .int .u64 (y3 : Int)] 24))
            have HX5 := Lib.hid (HX4.out.under hb HX4.out.lt)
            obtain ⟨x0, x1, x2, x3, -⟩ := HX5.out.four
            have hxl := HX5.out.lt
            clear hb HB4 HX4 HB'
            go_wp2_with fail
            refine (awake_any _).mono ?_
            rintro e w6 ⟨rfl, hb⟩
            go_wp2
            go_ret
            exact ⟨rfl, keepb HB5.out hb⟩
        | some p =>
          obtain ⟨u, m⟩ := p
          obtain ⟨q1, q2, q3, q4, q5⟩ := txtO_res htx
          obtain ⟨m1, rfl⟩ : ∃ m1, m = m1 + 1 := ⟨m - 1, by omega⟩
          rw [Nat.add_sub_cancel] at q3
          have m1lt : m1 < s.size := by omega
          have hsm : (s[m1].toNat : Int) = 34 := by rw [← byt_get m1lt, q3]
          have m1le : ((m1 : Int) + 1) ≤ s.size := by omega
          have m1ge : (j : Int) < (m1 : Int) + 1 := by omega
          have hb1 := txt_back (At.self (textS u))
          rw [if_neg (by omega), Nat.zero_add] at hb1
          have CR := Lib.hid (fun W => show Calls Try.prog 7 #[.string s, .int .i64 (j : Int)] W fun e w' => e = .returned (.tuple #[.string u, .int .i64 ((m1 : Int) + 1), .bool true]) ∧ Below W.heap.size W w' from by have h := readtext_any s (by omega) (j : Int) W; rw [htx] at h; exact h)
          have CT1 := Lib.hid (fun W => text_any u (by omega) W)
          have CR1 := fun W => readtext_any (textS u) (by have := text_le u; omega) 0 W
          rw [show txtO (textS u) 0 = _ from hb1] at CR1
          change ∀ W, Calls Try.prog 7 #[.string (textS u), .int .i64 0] W fun e w' => e = .returned (.tuple #[.string u, .int .i64 ((textS u).size : Int), .bool true]) ∧ Below W.heap.size W w' at CR1
          generalize textS u = uu at *
          have CR1 := Lib.hid CR1
          clear htx q1 q2 q3 q4 q5 hb1
          cases hcl : clsO s (j : Int) with
          | none =>
            have CS := Lib.hid (fun W => show Calls Try.prog 9 #[.string s, .int .i64 (j : Int)] W fun e w' => e = .returned (.tuple #[.agg #[.int .u64 0, .int .u64 0, .int .u64 0, .int .u64 0], .int .i64 0, .bool false]) ∧ Below W.heap.size W w' from by have h := readclass_any s (by omega) (j : Int) W; rw [hcl] at h; exact h)
            clear hcl
            go_wp2_with fail
            refine (CR.out _).mono ?_
            rintro e w2 ⟨rfl, hb⟩
            have HB2 := Lib.hid (keepb HB1.out hb)
            clear hb HB1
            go_wp2_with fail
            refine (CT1.out _).mono ?_
            rintro e w3 ⟨rfl, hb⟩
            have HB3 := Lib.hid (keepb HB2.out hb)
            clear hb HB2
            go_wp2_with fail
            refine (CR1.out _).mono ?_
            rintro e w4 ⟨rfl, hb⟩
            have HB4 := Lib.hid (keepb HB3.out hb)
            clear hb HB3
            go_wp2_with fail
            refine (CS.out _).mono ?_
            rintro e w5 ⟨rfl, hb⟩
            have HB' := keepb HB4.out hb
            have HB5 := Lib.hid (HB'.alloc HB'.size (.cells #[.int .u64 0, .int .u64 0, .int .u64 0, .int .u64 0] 24))
            clear hb HB4 HB'
            go_wp2_with fail
            refine (awake_any _).mono ?_
            rintro e w6 ⟨rfl, hb⟩
            go_wp2
            go_ret
            exact ⟨rfl, keepb HB5.out hb⟩
          | some p =>
            obtain ⟨⟨y0, y1, y2, y3⟩, m⟩ := p
            obtain ⟨r1, r2, r3, r4, r5⟩ := clsO_res hcl
            obtain ⟨n1, rfl⟩ : ∃ n1, m = n1 + 1 := ⟨m - 1, by omega⟩
            rw [Nat.add_sub_cancel] at r3
            have n1lt : n1 < s.size := by omega
            have hsn : (s[n1].toNat : Int) = 93 := by rw [← byt_get n1lt, r3]
            have n1le : ((n1 : Int) + 1) ≤ s.size := by omega
            have n1ge : (j : Int) < (n1 : Int) + 1 := by omega
            have hb2 := cls_back r4 (At.self (classS (inS (y0, y1, y2, y3))))
            rw [if_neg r5, Nat.zero_add] at hb2
            have CS := Lib.hid (fun W => show Calls Try.prog 9 #[.string s, .int .i64 (j : Int)] W fun e w' => e = .returned (.tuple #[.agg #[.int .u64 (y0 : Int), .int .u64 (y1 : Int), .int .u64 (y2 : Int), .int .u64 (y3 : Int)], .int .i64 ((n1 : Int) + 1), .bool true]) ∧ Below W.heap.size W w' from by have h := readclass_any s (by omega) (j : Int) W; rw [hcl] at h; exact h)
            have CC1 := Lib.hid (fun W => class_any y0 y1 y2 y3 r4.1 r4.2.1 r4.2.2.1 r4.2.2.2 W)
            have CS1 := fun W => readclass_any (classS (inSet y0 y1 y2 y3)) (by have := class_le (inSet y0 y1 y2 y3); omega) 0 W
            rw [show clsO (classS (inSet y0 y1 y2 y3)) 0 = _ from hb2] at CS1
            change ∀ W, Calls Try.prog 9 #[.string (classS (inSet y0 y1 y2 y3)), .int .i64 0] W fun e w' => e = .returned (.tuple #[.agg #[.int .u64 (y0 : Int), .int .u64 (y1 : Int), .int .u64 (y2 : Int), .int .u64 (y3 : Int)], .int .i64 ((classS (inSet y0 y1 y2 y3)).size : Int), .bool true]) ∧ Below W.heap.size W w' at CS1
            generalize classS (inSet y0 y1 y2 y3) = v at *
            have CS1 := Lib.hid CS1
            clear hcl r1 r2 r3 r4 r5 hb2
            go_wp2_with fail
            refine (CR.out _).mono ?_
            rintro e w2 ⟨rfl, hb⟩
            have HB2 := Lib.hid (keepb HB1.out hb)
            clear hb HB1
            go_wp2_with fail
            refine (CT1.out _).mono ?_
            rintro e w3 ⟨rfl, hb⟩
            have HB3 := Lib.hid (keepb HB2.out hb)
            clear hb HB2
            go_wp2_with fail
            refine (CR1.out _).mono ?_
            rintro e w4 ⟨rfl, hb⟩
            have HB4 := Lib.hid (keepb HB3.out hb)
            clear hb HB3
            go_wp2_with fail
            refine (CS.out _).mono ?_
            rintro e w5 ⟨rfl, hb⟩
            have HB' := keepb HB4.out hb
            have HB5 := Lib.hid (HB'.alloc HB'.size (.cells #[.int .u64 (y0 : Int), .int .u64 (y1 : Int), .int .u64 (y2 : Int), .int .u64 (y3 : Int)] 24))
            have HX5 := Lib.hid (Own.fresh w5 24 [.int .u64 (y0 : Int), .int .u64 (y1 : Int), .int .u64 (y2 : Int), .int .u64 (y3 : Int)])
            clear hb HB4 HB'
            go_wp2_with fail
            refine (CC1.out _).mono ?_
            rintro e w6 ⟨rfl, hb⟩
            have HB6 := Lib.hid (keepb HB5.out hb)
            have HX6 := Lib.hid (HX5.out.under hb HX5.out.lt)
            clear hb HB5 HX5
            go_wp2_with fail
            refine (CS1.out _).mono ?_
            rintro e w7 ⟨rfl, hb⟩
            have HB' := keepb HB6.out hb
            have HB7 := Lib.hid (HB'.alloc HB'.size (.cells #[.int .u64 (y0 : Int), .int .u64 (y1 : Int), .int .u64 (y2 : Int), .int .u64 (y3 : Int)] 24))
            have HX7 := Lib.hid (HX6.out.under hb HX6.out.lt)
            obtain ⟨x0, x1, x2, x3, -⟩ := HX7.out.four
            have hxl := HX7.out.lt
            clear hb HB6 HX6 HB'
            go_wp2_with fail
            refine (awake_any _).mono ?_
            rintro e w8 ⟨rfl, hb⟩
            go_wp2
            go_ret
            exact ⟨rfl, keepb HB7.out hb⟩
  · go_enter Try.func5, Try.ntmps5
    go_wp2_with fail
    refine (awake_any _).mono ?_
    rintro e w9 ⟨rfl, hb9⟩
    go_wp2
    go_ret
    exact ⟨rfl, keepb HB0.out hb9⟩
end Go.Proofs.Ytinkgidncdjapaa
