/- The law UtfBack, walked. -/
import Derived.Test.YtmheekoaklfffabAwake02
import Derived.Test.YtmheekoaklfffabUtfBack
import Derived.Test.YtmheekoaklfffabTells02
namespace Go.Proofs.Ytmheekoaklfffab
set_option linter.unusedVariables false
open Go.RowKit Go.Sort Go.PlainAid

set_option maxHeartbeats 4000000 in
theorem back_walk (n : Nat) (hn : (n : Int) < 4294967296) (s : ByteArray) (hs : s.size ≤ maxLen) (w : World) :
    Calls Try.prog 4 #[.int .u32 (n : Int), .string s] w fun e w' => e = .returned (.bool true) ∧ Below w.heap.size w w' := by
  clear hn
  by_cases hl : (s.size : Int) ≤ 100
  · obtain ⟨v, hv⟩ : ∃ v, rightB ((n : Int) % 1179648) = v := ⟨_, rfl⟩
    have D2 := decode_any s hs
    have R := right_any ((n : Int) % 1179648)
    have E := encode_any ((n : Int) % 1179648)
    rw [hv] at R E
    have R' := Lib.hid R
    have E' := Lib.hid E
    clear R E
    have hs' := hs
    unfold maxLen at hs'
    have hk0 : (0 : Int) ≤ (n : Int) % 1179648 := by omega
    have hk1 : (n : Int) % 1179648 ≤ 1179647 := by omega
    cases v
    · have he : encS ((n : Int) % 1179648) = ⟨#[]⟩ := by unfold encS; rw [hv]; rfl
      rw [he] at E'
      obtain ⟨x, y, z, hd⟩ := decV_form (⟨#[]⟩ ++ s)
      have D1 := decode_any (⟨#[]⟩ ++ s) (by rw [ByteArray.size_append]; unfold maxLen; show 0 + s.size ≤ _; omega)
      rw [hd] at D1
      have D1' := Lib.hid D1
      clear D1 hd he hv
      generalize hq : (n : Int) % 1179648 = k at *
      rcases dec_told s with hd2 | ⟨d, m, hd2, hm1, hm2, hr2, he2⟩
      · rw [hd2] at D2
        have D2' := Lib.hid D2
        clear D2 hd2
        go_enter Try.func4, Try.ntmps4
        go_wp2_with fail
        refine (E'.out _).mono ?_
        rintro e w1 ⟨rfl, hb1⟩
        go_wp2_with fail
        refine (D1'.out _).mono ?_
        rintro e w2 ⟨rfl, hb2⟩
        go_wp2_with fail
        refine (R'.out _).mono ?_
        rintro e w3 ⟨rfl, rfl⟩
        have hB := keepb hb1 hb2
        clear hb1 hb2
        go_wp2_with fail
        refine (D2'.out _).mono ?_
        rintro e w4 ⟨rfl, hb4⟩
        have hB4 := keepb hB hb4
        clear hB hb4
        go_wp2_with fail
        refine (awake_any _).mono ?_
        rintro e w5 ⟨rfl, hb5⟩
        go_wp2_with fail
        go_ret
        exact ⟨rfl, keepb hB4 hb5⟩
      · rw [hd2] at D2
        have D2' := Lib.hid D2
        have E2 := encode_any d
        rw [hr2] at E2
        have E2' := Lib.hid E2
        have hm3 : (1 : Int) ≤ (m : Int) := by omega
        have hm4 : (m : Int) ≤ (s.size : Int) := by omega
        have hm5 : (m : Int) ≤ 100 := by omega
        clear D2 E2 hd2 hr2
        go_enter Try.func4, Try.ntmps4
        go_wp2_with fail
        refine (E'.out _).mono ?_
        rintro e w1 ⟨rfl, hb1⟩
        go_wp2_with fail
        refine (D1'.out _).mono ?_
        rintro e w2 ⟨rfl, hb2⟩
        go_wp2_with fail
        refine (R'.out _).mono ?_
        rintro e w3 ⟨rfl, rfl⟩
        have hB := keepb hb1 hb2
        clear hb1 hb2
        go_wp2_with fail
        refine (D2'.out _).mono ?_
        rintro e w4 ⟨rfl, hb4⟩
        have hB4 := keepb hB hb4
        clear hB hb4
        go_wp2_with fail
        refine (E2'.out _).mono ?_
        rintro e w5 ⟨rfl, hb5⟩
        have hB5 := keepb hB4 hb5
        clear hB4 hb5
        go_wp2_with fail
        refine (awake_any _).mono ?_
        rintro e w6 ⟨rfl, hb6⟩
        go_wp2_with fail
        go_ret
        exact ⟨rfl, keepb hB5 hb6⟩
    · obtain ⟨l, hsz, hl1, hl4⟩ : ∃ l : Nat, (encL ((n : Int) % 1179648)).length = l ∧ 1 ≤ l ∧ l ≤ 4 := ⟨_, rfl, encL_len_le _⟩
      have hz2 : (encS ((n : Int) % 1179648)).size = l := by rw [encS_size _ hv, hsz]
      have hd := dec_back _ s hv
      rw [hsz] at hd
      have D1 := decode_any (encS ((n : Int) % 1179648) ++ s) (by rw [ByteArray.size_append, hz2]; unfold maxLen; omega)
      rw [hd] at D1
      have D1' := Lib.hid D1
      clear D1 hd hsz hv
      generalize encS ((n : Int) % 1179648) = a at *
      have hl5 : (l : Int) ≤ 4 := by omega
      generalize hq : (n : Int) % 1179648 = k at *
      rcases dec_told s with hd2 | ⟨d, m, hd2, hm1, hm2, hr2, he2⟩
      · rw [hd2] at D2
        have D2' := Lib.hid D2
        clear D2 hd2
        go_enter Try.func4, Try.ntmps4
        go_wp2_with fail
        refine (E'.out _).mono ?_
        rintro e w1 ⟨rfl, hb1⟩
        go_wp2_with fail
        refine (D1'.out _).mono ?_
        rintro e w2 ⟨rfl, hb2⟩
        go_wp2_with fail
        refine (R'.out _).mono ?_
        rintro e w3 ⟨rfl, rfl⟩
        have hB := keepb hb1 hb2
        clear hb1 hb2
        go_wp2_with fail
        refine (D2'.out _).mono ?_
        rintro e w4 ⟨rfl, hb4⟩
        have hB4 := keepb hB hb4
        clear hB hb4
        go_wp2_with fail
        refine (awake_any _).mono ?_
        rintro e w5 ⟨rfl, hb5⟩
        go_wp2_with fail
        go_ret
        exact ⟨rfl, keepb hB4 hb5⟩
      · rw [hd2] at D2
        have D2' := Lib.hid D2
        have E2 := encode_any d
        rw [hr2] at E2
        have E2' := Lib.hid E2
        have hm3 : (1 : Int) ≤ (m : Int) := by omega
        have hm4 : (m : Int) ≤ (s.size : Int) := by omega
        have hm5 : (m : Int) ≤ 100 := by omega
        clear D2 E2 hd2 hr2
        go_enter Try.func4, Try.ntmps4
        go_wp2_with fail
        refine (E'.out _).mono ?_
        rintro e w1 ⟨rfl, hb1⟩
        go_wp2_with fail
        refine (D1'.out _).mono ?_
        rintro e w2 ⟨rfl, hb2⟩
        go_wp2_with fail
        refine (R'.out _).mono ?_
        rintro e w3 ⟨rfl, rfl⟩
        have hB := keepb hb1 hb2
        clear hb1 hb2
        go_wp2_with fail
        refine (D2'.out _).mono ?_
        rintro e w4 ⟨rfl, hb4⟩
        have hB4 := keepb hB hb4
        clear hB hb4
        go_wp2_with fail
        refine (E2'.out _).mono ?_
        rintro e w5 ⟨rfl, hb5⟩
        have hB5 := keepb hB4 hb5
        clear hB4 hb5
        go_wp2_with fail
        refine (awake_any _).mono ?_
        rintro e w6 ⟨rfl, hb6⟩
        go_wp2_with fail
        go_ret
        exact ⟨rfl, keepb hB5 hb6⟩
  · clear hs
    go_enter Try.func4, Try.ntmps4
    go_wp2_with fail
    refine (awake_any _).mono ?_
    rintro e w1 ⟨rfl, hb1⟩
    go_wp2_with fail
    go_ret
    exact ⟨rfl, hb1⟩
end Go.Proofs.Ytmheekoaklfffab
