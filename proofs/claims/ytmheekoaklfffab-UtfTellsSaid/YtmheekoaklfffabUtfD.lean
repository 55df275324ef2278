/- The walk of utf.Decode. -/
import Derived.Test.YtmheekoaklfffabUtf
namespace Go.Proofs.Ytmheekoaklfffab
set_option linter.unusedVariables false
open Go.RowKit Go.Sort Go.PlainAid

set_option maxHeartbeats 800000 in
theorem decode1 (s : ByteArray) (hs : s.size ≤ maxLen) (hp : 0 < s.size) (hk : headK (bt s 0) = 1) (hN : headN (bt s 0) = bt s 0) (w : World) : Calls Try.prog 9 #[.string s] w fun e w' => e = .returned (decV s) ∧ Below w.heap.size w w' := by
  unfold maxLen at hs
  have hne := not_empty hp
  have hb := get_bt s
  have h0 := bt_nonneg s 0
  have h1 := bt_le s 0
  have H := head_any (bt s 0) h0 h1
  rw [hN, hk] at H
  have H' := Lib.hid H
  clear H
  by_cases hz : 1 ≤ s.size
  · obtain ⟨v, hv⟩ : ∃ v, rightB (bt s 0) = v := ⟨_, rfl⟩
    have E := encode_any (bt s 0)
    rw [hv] at E
    have E' := Lib.hid E
    clear E
    have hD : ∀ g, good s 1 = g → decV s = if g = true then .tuple #[.int .i64 (bt s 0), .int .i64 1, .bool true] else .tuple #[.int .i64 0, .int .i64 0, .bool false] := fun g hg => by
      cases g
      · rw [decV_none hk hg]; rfl
      · rw [decV_some hk hg]; rfl
    cases v
    · have hd := Lib.hid (hD false (bad_right s 1 hv))
      clear hD hv hk hN
      go_enter Try.func9, Try.ntmps9
      go_wp2_with fail
      refine (H'.out _).mono ?_
      rintro e w1 ⟨rfl, rfl⟩
      go_wp2_with fail
      refine wp_loop_rounds 5 ?_
      repeat any_goals (rw [rounds_succ]; go_wp2_with fail)
      refine (E'.out _).mono ?_
      rintro e w1 ⟨rfl, hb1⟩
      go_wp2_with fail
      go_ret3
      exact ⟨by rw [hd.out]; rfl, hb1⟩
    · have hg : Hid (((encS (bt s 0)).toList == (s.extract 0 1).toList) = good s 1) := Lib.hid (good_of s 1 hz hv)
      have hD' := Lib.hid hD
      clear hD hv hk hN
      go_enter Try.func9, Try.ntmps9
      go_wp2_with fail
      refine (H'.out _).mono ?_
      rintro e w1 ⟨rfl, rfl⟩
      go_wp2_with fail
      refine wp_loop_rounds 5 ?_
      repeat any_goals (rw [rounds_succ]; go_wp2_with fail)
      refine (E'.out _).mono ?_
      rintro e w1 ⟨rfl, hb1⟩
      go_wp2_with fail
      · rename_i ht
        have hg' := hg.out
        go_ret3
        refine ⟨?_, hb1⟩
        rw [hD'.out false (by rw [← hg']; simpa using ht)]; rfl
      · rename_i ht
        have hg' := hg.out
        go_ret3
        refine ⟨?_, hb1⟩
        rw [hD'.out true (by rw [← hg']; simpa using ht)]; rfl

  · exact absurd hp (by omega)

set_option maxHeartbeats 800000 in
theorem decode2 (s : ByteArray) (hs : s.size ≤ maxLen) (hp : 0 < s.size) (hk : headK (bt s 0) = 2) (hN : headN (bt s 0) = bt s 0 % 32) (w : World) : Calls Try.prog 9 #[.string s] w fun e w' => e = .returned (decV s) ∧ Below w.heap.size w w' := by
  unfold maxLen at hs
  have hne := not_empty hp
  have hb := get_bt s
  have h0 := bt_nonneg s 0
  have h1 := bt_le s 0
  have H := head_any (bt s 0) h0 h1
  rw [hN, hk] at H
  have H' := Lib.hid H
  clear H
  by_cases hz : 2 ≤ s.size
  · have e1 := u8_63 (bt s 1) (bt_nonneg s 1) (bt_le s 1)
    have f1 := or_shift (bt s 0 % 32) (bt s 1 % 64) (by omega) (by omega) (by omega) (by omega)
    have hc : cand s 2 = bt s 0 % 32 * 64 + bt s 1 % 64 := rfl
    rw [← hc] at f1
    clear hc
    obtain ⟨v, hv⟩ : ∃ v, rightB (cand s 2) = v := ⟨_, rfl⟩
    have E := encode_any (cand s 2)
    rw [hv] at E
    have E' := Lib.hid E
    clear E
    have hD : ∀ g, good s 2 = g → decV s = if g = true then .tuple #[.int .i64 (cand s 2), .int .i64 2, .bool true] else .tuple #[.int .i64 0, .int .i64 0, .bool false] := fun g hg => by
      cases g
      · rw [decV_none hk hg]; rfl
      · rw [decV_some hk hg]; rfl
    cases v
    · have hd := Lib.hid (hD false (bad_right s 2 hv))
      clear hD hv hk hN
      generalize cand s 2 = c at *
      go_enter Try.func9, Try.ntmps9
      go_wp2_with fail
      refine (H'.out _).mono ?_
      rintro e w1 ⟨rfl, rfl⟩
      go_wp2_with fail
      refine wp_loop_rounds 5 ?_
      repeat any_goals (rw [rounds_succ]; go_wp2_with fail)
      refine (E'.out _).mono ?_
      rintro e w1 ⟨rfl, hb1⟩
      go_wp2_with fail
      go_ret3
      exact ⟨by rw [hd.out]; rfl, hb1⟩
    · have hg := Lib.hid (good_of s 2 hz hv)
      have hD' := Lib.hid hD
      clear hD hv hk hN
      generalize cand s 2 = c at *
      go_enter Try.func9, Try.ntmps9
      go_wp2_with fail
      refine (H'.out _).mono ?_
      rintro e w1 ⟨rfl, rfl⟩
      go_wp2_with fail
      refine wp_loop_rounds 5 ?_
      repeat any_goals (rw [rounds_succ]; go_wp2_with fail)
      refine (E'.out _).mono ?_
      rintro e w1 ⟨rfl, hb1⟩
      go_wp2_with fail
      · rename_i ht
        have hg' := hg.out
        go_ret3
        refine ⟨?_, hb1⟩
        rw [hD'.out false (by rw [← hg']; simpa using ht)]; rfl
      · rename_i ht
        have hg' := hg.out
        go_ret3
        refine ⟨?_, hb1⟩
        rw [hD'.out true (by rw [← hg']; simpa using ht)]; rfl

  · have hd := Lib.hid (decV_none hk (bad_size s 2 (by omega)))
    clear hk hN
    go_enter Try.func9, Try.ntmps9
    go_wp2_with fail
    refine (H'.out _).mono ?_
    rintro e w1 ⟨rfl, rfl⟩
    go_wp2_with fail
    go_ret3
    exact ⟨by rw [hd.out]; rfl, Below.refl _ _⟩

set_option maxHeartbeats 800000 in
theorem decode3 (s : ByteArray) (hs : s.size ≤ maxLen) (hp : 0 < s.size) (hk : headK (bt s 0) = 3) (hN : headN (bt s 0) = bt s 0 % 16) (w : World) : Calls Try.prog 9 #[.string s] w fun e w' => e = .returned (decV s) ∧ Below w.heap.size w w' := by
  unfold maxLen at hs
  have hne := not_empty hp
  have hb := get_bt s
  have h0 := bt_nonneg s 0
  have h1 := bt_le s 0
  have H := head_any (bt s 0) h0 h1
  rw [hN, hk] at H
  have H' := Lib.hid H
  clear H
  by_cases hz : 3 ≤ s.size
  · have e1 := u8_63 (bt s 1) (bt_nonneg s 1) (bt_le s 1)
    have e2 := u8_63 (bt s 2) (bt_nonneg s 2) (bt_le s 2)
    have f1 := or_shift (bt s 0 % 16) (bt s 1 % 64) (by omega) (by omega) (by omega) (by omega)
    have f2 := or_shift (bt s 0 % 16 * 64 + bt s 1 % 64) (bt s 2 % 64) (by omega) (by omega) (by omega) (by omega)
    have hc : cand s 3 = (bt s 0 % 16 * 64 + bt s 1 % 64) * 64 + bt s 2 % 64 := rfl
    rw [← hc] at f2
    clear hc
    obtain ⟨v, hv⟩ : ∃ v, rightB (cand s 3) = v := ⟨_, rfl⟩
    have E := encode_any (cand s 3)
    rw [hv] at E
    have E' := Lib.hid E
    clear E
    have hD : ∀ g, good s 3 = g → decV s = if g = true then .tuple #[.int .i64 (cand s 3), .int .i64 3, .bool true] else .tuple #[.int .i64 0, .int .i64 0, .bool false] := fun g hg => by
      cases g
      · rw [decV_none hk hg]; rfl
      · rw [decV_some hk hg]; rfl
    cases v
    · have hd := Lib.hid (hD false (bad_right s 3 hv))
      clear hD hv hk hN
      generalize cand s 3 = c at *
      go_enter Try.func9, Try.ntmps9
      go_wp2_with fail
      refine (H'.out _).mono ?_
      rintro e w1 ⟨rfl, rfl⟩
      go_wp2_with fail
      refine wp_loop_rounds 5 ?_
      repeat any_goals (rw [rounds_succ]; go_wp2_with fail)
      refine (E'.out _).mono ?_
      rintro e w1 ⟨rfl, hb1⟩
      go_wp2_with fail
      go_ret3
      exact ⟨by rw [hd.out]; rfl, hb1⟩
    · have hg := Lib.hid (good_of s 3 hz hv)
      have hD' := Lib.hid hD
      clear hD hv hk hN
      generalize cand s 3 = c at *
      go_enter Try.func9, Try.ntmps9
      go_wp2_with fail
      refine (H'.out _).mono ?_
      rintro e w1 ⟨rfl, rfl⟩
      go_wp2_with fail
      refine wp_loop_rounds 5 ?_
      repeat any_goals (rw [rounds_succ]; go_wp2_with fail)
      refine (E'.out _).mono ?_
      rintro e w1 ⟨rfl, hb1⟩
      go_wp2_with fail
      · rename_i ht
        have hg' := hg.out
        go_ret3
        refine ⟨?_, hb1⟩
        rw [hD'.out false (by rw [← hg']; simpa using ht)]; rfl
      · rename_i ht
        have hg' := hg.out
        go_ret3
        refine ⟨?_, hb1⟩
        rw [hD'.out true (by rw [← hg']; simpa using ht)]; rfl

  · have hd := Lib.hid (decV_none hk (bad_size s 3 (by omega)))
    clear hk hN
    go_enter Try.func9, Try.ntmps9
    go_wp2_with fail
    refine (H'.out _).mono ?_
    rintro e w1 ⟨rfl, rfl⟩
    go_wp2_with fail
    go_ret3
    exact ⟨by rw [hd.out]; rfl, Below.refl _ _⟩

set_option maxHeartbeats 800000 in
theorem decode4 (s : ByteArray) (hs : s.size ≤ maxLen) (hp : 0 < s.size) (hk : headK (bt s 0) = 4) (hN : headN (bt s 0) = bt s 0 % 8) (w : World) : Calls Try.prog 9 #[.string s] w fun e w' => e = .returned (decV s) ∧ Below w.heap.size w w' := by
  unfold maxLen at hs
  have hne := not_empty hp
  have hb := get_bt s
  have h0 := bt_nonneg s 0
  have h1 := bt_le s 0
  have H := head_any (bt s 0) h0 h1
  rw [hN, hk] at H
  have H' := Lib.hid H
  clear H
  by_cases hz : 4 ≤ s.size
  · have e1 := u8_63 (bt s 1) (bt_nonneg s 1) (bt_le s 1)
    have e2 := u8_63 (bt s 2) (bt_nonneg s 2) (bt_le s 2)
    have e3 := u8_63 (bt s 3) (bt_nonneg s 3) (bt_le s 3)
    have f1 := or_shift (bt s 0 % 8) (bt s 1 % 64) (by omega) (by omega) (by omega) (by omega)
    have f2 := or_shift (bt s 0 % 8 * 64 + bt s 1 % 64) (bt s 2 % 64) (by omega) (by omega) (by omega) (by omega)
    have f3 := or_shift ((bt s 0 % 8 * 64 + bt s 1 % 64) * 64 + bt s 2 % 64) (bt s 3 % 64) (by omega) (by omega) (by omega) (by omega)
    have hc : cand s 4 = ((bt s 0 % 8 * 64 + bt s 1 % 64) * 64 + bt s 2 % 64) * 64 + bt s 3 % 64 := rfl
    rw [← hc] at f3
    clear hc
    obtain ⟨v, hv⟩ : ∃ v, rightB (cand s 4) = v := ⟨_, rfl⟩
    have E := encode_any (cand s 4)
    rw [hv] at E
    have E' := Lib.hid E
    clear E
    have hD : ∀ g, good s 4 = g → decV s = if g = true then .tuple #[.int .i64 (cand s 4), .int .i64 4, .bool true] else .tuple #[.int .i64 0, .int .i64 0, .bool false] := fun g hg => by
      cases g
      · rw [decV_none hk hg]; rfl
      · rw [decV_some hk hg]; rfl
    cases v
    · have hd := Lib.hid (hD false (bad_right s 4 hv))
      clear hD hv hk hN
      generalize cand s 4 = c at *
      go_enter Try.func9, Try.ntmps9
      go_wp2_with fail
      refine (H'.out _).mono ?_
      rintro e w1 ⟨rfl, rfl⟩
      go_wp2_with fail
      refine wp_loop_rounds 5 ?_
      repeat any_goals (rw [rounds_succ]; go_wp2_with fail)
      refine (E'.out _).mono ?_
      rintro e w1 ⟨rfl, hb1⟩
      go_wp2_with fail
      go_ret3
      exact ⟨by rw [hd.out]; rfl, hb1⟩
    · have hg := Lib.hid (good_of s 4 hz hv)
      have hD' := Lib.hid hD
      clear hD hv hk hN
      generalize cand s 4 = c at *
      go_enter Try.func9, Try.ntmps9
      go_wp2_with fail
      refine (H'.out _).mono ?_
      rintro e w1 ⟨rfl, rfl⟩
      go_wp2_with fail
      refine wp_loop_rounds 5 ?_
      repeat any_goals (rw [rounds_succ]; go_wp2_with fail)
      refine (E'.out _).mono ?_
      rintro e w1 ⟨rfl, hb1⟩
      go_wp2_with fail
      · rename_i ht
        have hg' := hg.out
        go_ret3
        refine ⟨?_, hb1⟩
        rw [hD'.out false (by rw [← hg']; simpa using ht)]; rfl
      · rename_i ht
        have hg' := hg.out
        go_ret3
        refine ⟨?_, hb1⟩
        rw [hD'.out true (by rw [← hg']; simpa using ht)]; rfl

  · have hd := Lib.hid (decV_none hk (bad_size s 4 (by omega)))
    clear hk hN
    go_enter Try.func9, Try.ntmps9
    go_wp2_with fail
    refine (H'.out _).mono ?_
    rintro e w1 ⟨rfl, rfl⟩
    go_wp2_with fail
    go_ret3
    exact ⟨by rw [hd.out]; rfl, Below.refl _ _⟩

set_option maxHeartbeats 800000 in
theorem decode_none (s : ByteArray) (hp : s.size = 0) (w : World) : Calls Try.prog 9 #[.string s] w fun e w' => e = .returned (decV s) ∧ Below w.heap.size w w' := by
  have hne := is_empty hp
  have hd : Hid (decV s = .tuple #[.int .i64 0, .int .i64 0, .bool false]) := Lib.hid (by
    unfold decV
    have : good s (headK (bt s 0)) = false := bad_size s _ (by rcases headK_cases (bt s 0) with h | h | h | h <;> omega)
    rw [this]; rfl)
  clear hp
  go_enter Try.func9, Try.ntmps9
  go_wp2_with fail
  go_ret3
  exact ⟨by rw [hd.out]; rfl, Below.refl _ _⟩
theorem decode_any (s : ByteArray) (hs : s.size ≤ maxLen) (w : World) : Calls Try.prog 9 #[.string s] w fun e w' => e = .returned (decV s) ∧ Below w.heap.size w w' := by
  by_cases hp : 0 < s.size
  · rcases headK_cases (bt s 0) with h | h | h | h
    · exact decode1 s hs hp h.1 h.2.2 w
    · exact decode2 s hs hp h.1 h.2.2.2 w
    · exact decode3 s hs hp h.1 h.2.2.2 w
    · exact decode4 s hs hp h.1 h.2.2 w
  · exact decode_none s (by omega) w
end Go.Proofs.Ytmheekoaklfffab
