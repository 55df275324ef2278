/- The walk of the document's answer Decode. -/
import Derived.Test.YtmheekoaklfffabRef02
namespace Go.Proofs.Ytmheekoaklfffab
set_option linter.unusedVariables false
open Go.RowKit Go.Sort Go.PlainAid

theorem decV_all {s : ByteArray} (h : ∀ j, 1 ≤ j → j < 5 → good s j = false) : decV s = .tuple #[.int .i64 0, .int .i64 0, .bool false] := by
  have := headK_cases (bt s 0)
  exact decV_none rfl (h _ (by omega) (by omega))

set_option maxHeartbeats 4000000 in
theorem rdecode_any (s : ByteArray) (hs : s.size ≤ maxLen) (w : World) : Calls Try.prog 10 #[.string s] w fun e w' => e = .returned (decV s) ∧ Below w.heap.size w w' := by
  unfold maxLen at hs
  have hb := get_bt s
  have b0 := bt_nonneg s 0
  have b1 := bt_le s 0
  go_enter Try.func10, Try.ntmps10
  go_wp2_with fail
  go_loopw [2, 3, 4, 5] (fun r2 r3 r4 i wr => ∃ k : Nat, 1 ≤ k ∧ (k : Int) ≤ 5 ∧ r2 = .int .i64 0 ∧ r3 = .int .i64 0 ∧ r4 = .bool false ∧ i = .int .i64 (k : Int) ∧ Hid (∀ j, 1 ≤ j → j < k → good s j = false) ∧ Below w.heap.size w wr)
    (fun _ _ _ i _ => 5 - (intOf i).toNat)
  case atStart => exact ⟨1, by omega, by omega, rfl, rfl, rfl, rfl, Lib.hid fun j h1 h2 => absurd h2 (by omega), Below.refl _ _⟩
  case round =>
    obtain ⟨k, hk1, hk5, rfl, rfl, rfl, rfl, hno, hbw⟩ := hrel
    by_cases hz : k ≤ s.size
    · have hcase : k = 1 ∨ k = 2 ∨ k = 3 ∨ k = 4 ∨ k = 5 := by omega
      rcases hcase with rfl | rfl | rfl | rfl | rfl
      · obtain ⟨v, hv⟩ : ∃ v, rightB (bt s 0) = v := ⟨_, rfl⟩
        have E := rencode_any (bt s 0)
        rw [hv] at E
        have E' := Lib.hid E
        clear E
        have hD' : Hid (good s 1 = true → decV s = .tuple #[.int .i64 (bt s 0), .int .i64 1, .bool true]) := Lib.hid fun hg => decV_some (good_head hg (by decide)) hg
        cases v
        · have hbad := Lib.hid (bad_right s 1 hv)
          clear hv hD'
          go_wp2_with fail
          refine wp_loop_rounds 5 ?_
          repeat any_goals (rw [rounds_succ]; go_wp2_with fail)
          refine (E'.out _).mono ?_
          rintro e w1 ⟨rfl, hb1⟩
          go_wp2_with fail
          go_roundw
          case rel => exact ⟨2, by omega, by omega, rfl, rfl, rfl, rfl, Lib.hid fun j h1 h2 => (show j = 1 ∨ j < 1 by omega).elim (fun e => e ▸ hbad.out) (fun h => hno.out j h1 h), keepb hbw hb1⟩
          case measure => simp [intOf]
        · have hg : Hid (((encS (bt s 0)).toList == (s.extract 0 1).toList) = good s 1) := Lib.hid (good_of s 1 hz hv)
          clear hv
          go_wp2_with fail
          refine wp_loop_rounds 5 ?_
          repeat any_goals (rw [rounds_succ]; go_wp2_with fail)
          refine (E'.out _).mono ?_
          rintro e w1 ⟨rfl, hb1⟩
          go_wp2_with fail
          · rename_i ht
            have hg' := hg.out
            go_ret3
            refine ⟨?_, keepb hbw hb1⟩
            rw [hD'.out (by rw [← hg']; simpa using ht)]; rfl
          · rename_i ht
            have hbad : Hid (good s 1 = false) := Lib.hid (by rw [← hg.out]; simpa using ht)
            go_roundw
            case rel => exact ⟨2, by omega, by omega, rfl, rfl, rfl, rfl, Lib.hid fun j h1 h2 => (show j = 1 ∨ j < 1 by omega).elim (fun e => e ▸ hbad.out) (fun h => hno.out j h1 h), keepb hbw hb1⟩
            case measure => simp [intOf]
      · have e1 := u8_63 (bt s 1) (bt_nonneg s 1) (bt_le s 1)
        have m0 := and31 (bt s 0) b0 b1
        have f1 := or_shift (bt s 0 % 32) (bt s 1 % 64) (by omega) (by omega) (by omega) (by omega)
        have hc : cand s 2 = bt s 0 % 32 * 64 + bt s 1 % 64 := rfl
        rw [← hc] at f1
        clear hc
        obtain ⟨v, hv⟩ : ∃ v, rightB (cand s 2) = v := ⟨_, rfl⟩
        have E := rencode_any (cand s 2)
        rw [hv] at E
        have E' := Lib.hid E
        clear E
        have hD' : Hid (good s 2 = true → decV s = .tuple #[.int .i64 (cand s 2), .int .i64 2, .bool true]) := Lib.hid fun hg => decV_some (good_head hg (by decide)) hg
        cases v
        · have hbad := Lib.hid (bad_right s 2 hv)
          clear hv hD'
          generalize cand s 2 = c at *
          go_wp2_with fail
          refine wp_loop_rounds 5 ?_
          repeat any_goals (rw [rounds_succ]; go_wp2_with fail)
          refine (E'.out _).mono ?_
          rintro e w1 ⟨rfl, hb1⟩
          go_wp2_with fail
          go_roundw
          case rel => exact ⟨3, by omega, by omega, rfl, rfl, rfl, rfl, Lib.hid fun j h1 h2 => (show j = 2 ∨ j < 2 by omega).elim (fun e => e ▸ hbad.out) (fun h => hno.out j h1 h), keepb hbw hb1⟩
          case measure => simp [intOf]
        · have hg : Hid (((encS (cand s 2)).toList == (s.extract 0 2).toList) = good s 2) := Lib.hid (good_of s 2 hz hv)
          clear hv
          generalize cand s 2 = c at *
          go_wp2_with fail
          refine wp_loop_rounds 5 ?_
          repeat any_goals (rw [rounds_succ]; go_wp2_with fail)
          refine (E'.out _).mono ?_
          rintro e w1 ⟨rfl, hb1⟩
          go_wp2_with fail
          · rename_i ht
            have hg' := hg.out
            go_ret3
            refine ⟨?_, keepb hbw hb1⟩
            rw [hD'.out (by rw [← hg']; simpa using ht)]; rfl
          · rename_i ht
            have hbad : Hid (good s 2 = false) := Lib.hid (by rw [← hg.out]; simpa using ht)
            go_roundw
            case rel => exact ⟨3, by omega, by omega, rfl, rfl, rfl, rfl, Lib.hid fun j h1 h2 => (show j = 2 ∨ j < 2 by omega).elim (fun e => e ▸ hbad.out) (fun h => hno.out j h1 h), keepb hbw hb1⟩
            case measure => simp [intOf]
      · have e1 := u8_63 (bt s 1) (bt_nonneg s 1) (bt_le s 1)
        have e2 := u8_63 (bt s 2) (bt_nonneg s 2) (bt_le s 2)
        have m0 := and15 (bt s 0) b0 b1
        have f1 := or_shift (bt s 0 % 16) (bt s 1 % 64) (by omega) (by omega) (by omega) (by omega)
        have f2 := or_shift (bt s 0 % 16 * 64 + bt s 1 % 64) (bt s 2 % 64) (by omega) (by omega) (by omega) (by omega)
        have hc : cand s 3 = (bt s 0 % 16 * 64 + bt s 1 % 64) * 64 + bt s 2 % 64 := rfl
        rw [← hc] at f2
        clear hc
        obtain ⟨v, hv⟩ : ∃ v, rightB (cand s 3) = v := ⟨_, rfl⟩
        have E := rencode_any (cand s 3)
        rw [hv] at E
        have E' := Lib.hid E
        clear E
        have hD' : Hid (good s 3 = true → decV s = .tuple #[.int .i64 (cand s 3), .int .i64 3, .bool true]) := Lib.hid fun hg => decV_some (good_head hg (by decide)) hg
        cases v
        · have hbad := Lib.hid (bad_right s 3 hv)
          clear hv hD'
          generalize cand s 3 = c at *
          go_wp2_with fail
          refine wp_loop_rounds 5 ?_
          repeat any_goals (rw [rounds_succ]; go_wp2_with fail)
          refine (E'.out _).mono ?_
          rintro e w1 ⟨rfl, hb1⟩
          go_wp2_with fail
          go_roundw
          case rel => exact ⟨4, by omega, by omega, rfl, rfl, rfl, rfl, Lib.hid fun j h1 h2 => (show j = 3 ∨ j < 3 by omega).elim (fun e => e ▸ hbad.out) (fun h => hno.out j h1 h), keepb hbw hb1⟩
          case measure => simp [intOf]
        · have hg : Hid (((encS (cand s 3)).toList == (s.extract 0 3).toList) = good s 3) := Lib.hid (good_of s 3 hz hv)
          clear hv
          generalize cand s 3 = c at *
          go_wp2_with fail
          refine wp_loop_rounds 5 ?_
          repeat any_goals (rw [rounds_succ]; go_wp2_with fail)
          refine (E'.out _).mono ?_
          rintro e w1 ⟨rfl, hb1⟩
          go_wp2_with fail
          · rename_i ht
            have hg' := hg.out
            go_ret3
            refine ⟨?_, keepb hbw hb1⟩
            rw [hD'.out (by rw [← hg']; simpa using ht)]; rfl
          · rename_i ht
            have hbad : Hid (good s 3 = false) := Lib.hid (by rw [← hg.out]; simpa using ht)
            go_roundw
            case rel => exact ⟨4, by omega, by omega, rfl, rfl, rfl, rfl, Lib.hid fun j h1 h2 => (show j = 3 ∨ j < 3 by omega).elim (fun e => e ▸ hbad.out) (fun h => hno.out j h1 h), keepb hbw hb1⟩
            case measure => simp [intOf]
      · have e1 := u8_63 (bt s 1) (bt_nonneg s 1) (bt_le s 1)
        have e2 := u8_63 (bt s 2) (bt_nonneg s 2) (bt_le s 2)
        have e3 := u8_63 (bt s 3) (bt_nonneg s 3) (bt_le s 3)
        have m0 := and7 (bt s 0) b0 b1
        have f1 := or_shift (bt s 0 % 8) (bt s 1 % 64) (by omega) (by omega) (by omega) (by omega)
        have f2 := or_shift (bt s 0 % 8 * 64 + bt s 1 % 64) (bt s 2 % 64) (by omega) (by omega) (by omega) (by omega)
        have f3 := or_shift ((bt s 0 % 8 * 64 + bt s 1 % 64) * 64 + bt s 2 % 64) (bt s 3 % 64) (by omega) (by omega) (by omega) (by omega)
        have hc : cand s 4 = ((bt s 0 % 8 * 64 + bt s 1 % 64) * 64 + bt s 2 % 64) * 64 + bt s 3 % 64 := rfl
        rw [← hc] at f3
        clear hc
        obtain ⟨v, hv⟩ : ∃ v, rightB (cand s 4) = v := ⟨_, rfl⟩
        have E := rencode_any (cand s 4)
        rw [hv] at E
        have E' := Lib.hid E
        clear E
        have hD' : Hid (good s 4 = true → decV s = .tuple #[.int .i64 (cand s 4), .int .i64 4, .bool true]) := Lib.hid fun hg => decV_some (good_head hg (by decide)) hg
        cases v
        · have hbad := Lib.hid (bad_right s 4 hv)
          clear hv hD'
          generalize cand s 4 = c at *
          go_wp2_with fail
          refine wp_loop_rounds 5 ?_
          repeat any_goals (rw [rounds_succ]; go_wp2_with fail)
          refine (E'.out _).mono ?_
          rintro e w1 ⟨rfl, hb1⟩
          go_wp2_with fail
          go_roundw
          case rel => exact ⟨5, by omega, by omega, rfl, rfl, rfl, rfl, Lib.hid fun j h1 h2 => (show j = 4 ∨ j < 4 by omega).elim (fun e => e ▸ hbad.out) (fun h => hno.out j h1 h), keepb hbw hb1⟩
          case measure => simp [intOf]
        · have hg : Hid (((encS (cand s 4)).toList == (s.extract 0 4).toList) = good s 4) := Lib.hid (good_of s 4 hz hv)
          clear hv
          generalize cand s 4 = c at *
          go_wp2_with fail
          refine wp_loop_rounds 5 ?_
          repeat any_goals (rw [rounds_succ]; go_wp2_with fail)
          refine (E'.out _).mono ?_
          rintro e w1 ⟨rfl, hb1⟩
          go_wp2_with fail
          · rename_i ht
            have hg' := hg.out
            go_ret3
            refine ⟨?_, keepb hbw hb1⟩
            rw [hD'.out (by rw [← hg']; simpa using ht)]; rfl
          · rename_i ht
            have hbad : Hid (good s 4 = false) := Lib.hid (by rw [← hg.out]; simpa using ht)
            go_roundw
            case rel => exact ⟨5, by omega, by omega, rfl, rfl, rfl, rfl, Lib.hid fun j h1 h2 => (show j = 4 ∨ j < 4 by omega).elim (fun e => e ▸ hbad.out) (fun h => hno.out j h1 h), keepb hbw hb1⟩
            case measure => simp [intOf]
      · have hd := Lib.hid (decV_all hno.out)
        go_wp2_with fail
        go_ret3
        exact ⟨by rw [hd.out]; rfl, hbw⟩
    · have hd := Lib.hid (decV_all (s := s) fun j h1 h2 => (Nat.lt_or_ge j k).elim (fun h => hno.out j h1 h) (fun h => bad_size s j (by omega)))
      have hz' : (s.size : Int) < (k : Int) := by omega
      clear hz
      by_cases hk4 : (k : Int) ≤ 4
      · go_wp2_with fail
        go_ret3
        exact ⟨by rw [hd.out]; rfl, hbw⟩
      · go_wp2_with fail
        go_ret3
        exact ⟨by rw [hd.out]; rfl, hbw⟩
end Go.Proofs.Ytmheekoaklfffab
