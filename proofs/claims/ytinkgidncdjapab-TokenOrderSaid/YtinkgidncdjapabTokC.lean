/- Where blanks and notes end: the walks of Skip, of the program's and the reference's. -/
import Derived.Test.YtinkgidncdjapabTokB
namespace Go.Proofs.Ytinkgidncdjapab
set_option linter.unusedVariables false
open Go.RowKit


set_option maxHeartbeats 1600000 in
set_option maxRecDepth 100000 in
theorem skip_any (s : ByteArray) (hs : s.size ≤ 1000000) (a : Nat) (ha : (a : Int) ≤ 9223372036854775807) (w : World) :
    Calls Try.prog 11 #[.string s, .int .i64 (a : Int)] w fun e w' => e = .returned (.int .i64 (skO s a : Int)) ∧ w' = w := by
  have HT0 := Lib.hid (show skF s (s.size + 1) a = skO s a ∧ s.size < s.size + 1 + a from ⟨rfl, by omega⟩)
  obtain ⟨o, ho⟩ : ∃ o, skO s a = o := ⟨_, rfl⟩
  rw [ho] at HT0 ⊢
  clear ho
  go_enter Try.func11, Try.ntmps11
  go_wp2
  go_loop [1] (fun i => ∃ k f : Nat, i = .int .i64 (k : Int) ∧ (k : Int) ≤ 9223372036854775807 ∧ Hid (skF s f k = o ∧ s.size < f + k)) (fun i => s.size - (intOf i).toNat)
  case atStart => exact ⟨a, s.size + 1, rfl, ha, HT0⟩
  case round =>
    obtain ⟨k, f, rfl, hk, HT⟩ := hrel
    by_cases hlt : (k : Int) < s.size
    · have hk1 : k < s.size := by omega
      obtain ⟨c, hc⟩ : ∃ c : Int, (s[k].toNat : Int) = c := ⟨_, rfl⟩
      have hbc : byt s k = c := by rw [byt_get hk1, hc]
      by_cases h32 : c = 32
      · subst h32
        have HT2 := Lib.hid (show skF s (f - 1) (k + 1) = o ∧ s.size < (f - 1) + (k + 1) from ⟨by rw [← HT.out.1]; exact (skF_blank HT.out.2 hk1 (by rw [hbc]; rfl)).symm, by have := HT.out.2; omega⟩)
        clear HT hbc
        go_wp2
        go_round
        case rel => exact ⟨k + 1, f - 1, by go_num, by omega, HT2⟩
        case measure => simp [intOf]; omega
      have e32 : (c == 32) = false := beq_eq_false_iff_ne.2 h32
      by_cases h9 : c = 9
      · subst h9
        have HT2 := Lib.hid (show skF s (f - 1) (k + 1) = o ∧ s.size < (f - 1) + (k + 1) from ⟨by rw [← HT.out.1]; exact (skF_blank HT.out.2 hk1 (by rw [hbc]; rfl)).symm, by have := HT.out.2; omega⟩)
        clear HT hbc
        go_wp2
        go_round
        case rel => exact ⟨k + 1, f - 1, by go_num, by omega, HT2⟩
        case measure => simp [intOf]; omega
      have e9 : (c == 9) = false := beq_eq_false_iff_ne.2 h9
      by_cases h10 : c = 10
      · subst h10
        have HT2 := Lib.hid (show skF s (f - 1) (k + 1) = o ∧ s.size < (f - 1) + (k + 1) from ⟨by rw [← HT.out.1]; exact (skF_blank HT.out.2 hk1 (by rw [hbc]; rfl)).symm, by have := HT.out.2; omega⟩)
        clear HT hbc
        go_wp2
        go_round
        case rel => exact ⟨k + 1, f - 1, by go_num, by omega, HT2⟩
        case measure => simp [intOf]; omega
      have e10 : (c == 10) = false := beq_eq_false_iff_ne.2 h10
      by_cases h35 : c = 35
      · subst h35
        have hn1 := ntO_pos hk1 hbc
        have hn2 := ntO_le (s := s) (k := k) (by omega)
        have HL := Lib.hid (fun W => lend_any s hs k (by omega) W)
        have HT2 := Lib.hid (show skF s (f - 1) (k + ntO s k) = o ∧ s.size < (f - 1) + (k + ntO s k) from ⟨by rw [← HT.out.1]; exact (skF_note HT.out.2 hk1 hbc).symm, by have := HT.out.2; omega⟩)
        generalize ntO s k = q at *
        clear HT hbc
        have hks : (k : Int) ≤ s.size := by omega
        go_wp2_with fail
        refine (HL.out _).mono ?_
        rintro e w1 ⟨rfl, rfl⟩
        go_wp2
        go_round
        case rel => exact ⟨k + q, f - 1, by go_num, by omega, HT2⟩
        case measure => simp [intOf]; omega
      have e35 : (c == 35) = false := beq_eq_false_iff_ne.2 h35
      have HE := Lib.hid (show o = k by rw [← HT.out.1]; exact skF_stop (by rw [hbc]; unfold blkB; rw [e32, e9, e10]; rfl) (by rw [hbc]; exact h35))
      clear HT hbc
      go_wp2
      go_ret
      exact ⟨ret_int (by rw [HE.out]), rfl⟩
    · have HE := Lib.hid (show o = k by rw [← HT.out.1]; exact skF_out (by omega))
      clear HT
      go_wp2
      go_ret
      exact ⟨ret_int (by rw [HE.out]), rfl⟩

set_option maxHeartbeats 1600000 in
set_option maxRecDepth 100000 in
theorem rskip_any (s : ByteArray) (hs : s.size ≤ 1000000) (a : Nat) (ha : (a : Int) ≤ 9223372036854775807) (w : World) :
    Calls Try.prog 12 #[.string s, .int .i64 (a : Int)] w fun e w' => e = .returned (.int .i64 (skO s a : Int)) ∧ w' = w := by
  have HT0 := Lib.hid (show skF s (s.size + 1) a = skO s a ∧ s.size < s.size + 1 + a from ⟨rfl, by omega⟩)
  obtain ⟨o, ho⟩ : ∃ o, skO s a = o := ⟨_, rfl⟩
  rw [ho] at HT0 ⊢
  clear ho
  go_enter Try.func12, Try.ntmps12
  go_wp2
  go_loop [1] (fun i => ∃ k f : Nat, i = .int .i64 (k : Int) ∧ (k : Int) ≤ 9223372036854775807 ∧ Hid (skF s f k = o ∧ s.size < f + k)) (fun i => s.size - (intOf i).toNat)
  case atStart => exact ⟨a, s.size + 1, rfl, ha, HT0⟩
  case round =>
    obtain ⟨k, f, rfl, hk, HT⟩ := hrel
    by_cases hlt : (k : Int) < s.size
    · have hk1 : k < s.size := by omega
      obtain ⟨c, hc⟩ : ∃ c : Int, (s[k].toNat : Int) = c := ⟨_, rfl⟩
      have hbc : byt s k = c := by rw [byt_get hk1, hc]
      by_cases h32 : c = 32
      · subst h32
        have HT2 := Lib.hid (show skF s (f - 1) (k + 1) = o ∧ s.size < (f - 1) + (k + 1) from ⟨by rw [← HT.out.1]; exact (skF_blank HT.out.2 hk1 (by rw [hbc]; rfl)).symm, by have := HT.out.2; omega⟩)
        clear HT hbc
        go_wp2
        go_round
        case rel => exact ⟨k + 1, f - 1, by go_num, by omega, HT2⟩
        case measure => simp [intOf]; omega
      have e32 : (c == 32) = false := beq_eq_false_iff_ne.2 h32
      by_cases h9 : c = 9
      · subst h9
        have HT2 := Lib.hid (show skF s (f - 1) (k + 1) = o ∧ s.size < (f - 1) + (k + 1) from ⟨by rw [← HT.out.1]; exact (skF_blank HT.out.2 hk1 (by rw [hbc]; rfl)).symm, by have := HT.out.2; omega⟩)
        clear HT hbc
        go_wp2
        go_round
        case rel => exact ⟨k + 1, f - 1, by go_num, by omega, HT2⟩
        case measure => simp [intOf]; omega
      have e9 : (c == 9) = false := beq_eq_false_iff_ne.2 h9
      by_cases h10 : c = 10
      · subst h10
        have HT2 := Lib.hid (show skF s (f - 1) (k + 1) = o ∧ s.size < (f - 1) + (k + 1) from ⟨by rw [← HT.out.1]; exact (skF_blank HT.out.2 hk1 (by rw [hbc]; rfl)).symm, by have := HT.out.2; omega⟩)
        clear HT hbc
        go_wp2
        go_round
        case rel => exact ⟨k + 1, f - 1, by go_num, by omega, HT2⟩
        case measure => simp [intOf]; omega
      have e10 : (c == 10) = false := beq_eq_false_iff_ne.2 h10
      by_cases h35 : c = 35
      · subst h35
        have hn1 := ntO_pos hk1 hbc
        have HT2 := Lib.hid (show skF s (f - 1) (k + ntO s k) = o ∧ s.size < (f - 1) + (k + ntO s k) from ⟨by rw [← HT.out.1]; exact (skF_note HT.out.2 hk1 hbc).symm, by have := HT.out.2; omega⟩)
        clear HT
        go_wp2
        go_loop [1] (fun i => ∃ j : Nat, i = .int .i64 ((k + j : Nat) : Int) ∧ k + j ≤ s.size ∧ Hid (∀ t, t < j → byt s (k + t) ≠ 10)) (fun i => s.size - (intOf i).toNat)
        case atStart => exact ⟨0, rfl, by omega, Lib.hid (fun t h => by omega)⟩
        case round =>
          obtain ⟨j, rfl, hj, HA⟩ := hrel
          by_cases hlt2 : ((k + j : Nat) : Int) < s.size
          · have hj1 : k + j < s.size := by omega
            obtain ⟨d, hd⟩ : ∃ d : Int, (s[k + j].toNat : Int) = d := ⟨_, rfl⟩
            have hbd : byt s (k + j) = d := by rw [byt_get hj1, hd]
            by_cases h10 : d = 10
            · subst h10
              have HN := Lib.hid (show ntO s k = j from nt_is (by omega) hj HA.out (fun _ => hbd))
              clear hbd HA
              go_wp2
              go_round
              case rel => exact ⟨k + j, f - 1, rfl, by omega, by rw [← HN.out]; exact HT2⟩
              case measure => have := HN.out; simp [intOf]; omega
            · have e10' : (d != 10) = true := by simp [h10]
              have e10'' : (d == 10) = false := beq_eq_false_iff_ne.2 h10
              have HA1 : Hid (∀ t, t < j + 1 → byt s (k + t) ≠ 10) := Lib.hid (fun t ht => by
                by_cases e : t = j
                · rw [e, hbd]; exact h10
                · exact HA.out t (by omega))
              clear hbd HA
              go_wp2
              go_round
              case rel => exact ⟨j + 1, by go_num, by omega, HA1⟩
              case measure => simp [intOf]; omega
          · have HN := Lib.hid (show ntO s k = j from nt_is (by omega) hj HA.out (fun h => by omega))
            have hlt3 : decide (((k + j : Nat) : Int) < (s.size : Int)) = false := decide_eq_false hlt2
            clear HA
            go_wp2
            go_round
            case rel => exact ⟨k + j, f - 1, rfl, by omega, by rw [← HN.out]; exact HT2⟩
            case measure => have := HN.out; simp [intOf]; omega
      have e35 : (c == 35) = false := beq_eq_false_iff_ne.2 h35
      have HE := Lib.hid (show o = k by rw [← HT.out.1]; exact skF_stop (by rw [hbc]; unfold blkB; rw [e32, e9, e10]; rfl) (by rw [hbc]; exact h35))
      clear HT hbc
      go_wp2
      go_ret
      exact ⟨ret_int (by rw [HE.out]), rfl⟩
    · have HE := Lib.hid (show o = k by rw [← HT.out.1]; exact skF_out (by omega))
      clear HT
      go_wp2
      go_ret
      exact ⟨ret_int (by rw [HE.out]), rfl⟩
end Go.Proofs.Ytinkgidncdjapab
