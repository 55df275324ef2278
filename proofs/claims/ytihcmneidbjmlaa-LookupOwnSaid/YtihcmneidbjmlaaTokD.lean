/- Signs: the walks of the program's signLength and the reference's sign. -/
import Derived.Test.YtihcmneidbjmlaaGj
namespace Go.Proofs.Ytihcmneidbjmlaa
set_option linter.unusedVariables false
open Go.RowKit

theorem rest_list (s : ByteArray) (p : Nat) : (restS s p).data.toList = s.data.toList.drop p := by
  unfold restS; rw [← ofL_drop]; show (s.data.toList.drop p).toArray.toList = _; simp
theorem byt_head {s : ByteArray} {p : Nat} (hp : p < s.size) : ∃ x r, s.data.toList.drop p = x :: r ∧ (x.toNat : Int) = byt s p ∧ r = s.data.toList.drop (p + 1) := by
  have h' : p < s.data.toList.length := by simpa using hp
  refine ⟨s.data.toList[p], s.data.toList.drop (p + 1), List.drop_eq_getElem_cons h', ?_, rfl⟩
  unfold byt; rw [List.getD_eq_getElem?_getD, List.getElem?_eq_getElem h']; rfl
theorem u8_is {x : UInt8} {n : Nat} (hn : n < 256) (h : (x.toNat : Int) = n) : x = UInt8.ofNat n := by
  apply UInt8.toNat.inj; rw [UInt8.toNat_ofNat']; omega
theorem two_colons {s : ByteArray} {p : Nat} (hp : p < s.size) (h : byt s p = 58) : Lib.hasPrefix (restS s p).data.toList [58, 58] = standB s ((p + 1 : Nat) : Int) 58 := by
  rw [rest_list]
  obtain ⟨x, r, e, hx, hr⟩ := byt_head hp
  obtain rfl : x = 58 := u8_is (n := 58) (by omega) (by rw [hx, h]; rfl)
  rw [e]
  by_cases g : p + 1 < s.size
  · obtain ⟨y, r2, e2, hy, -⟩ := byt_head g
    rw [hr, e2, stand_in g, ← hy]
    by_cases h58 : y = 58
    · subst h58; simp [Lib.hasPrefix, List.isPrefixOf]
    · have : (y.toNat : Int) ≠ 58 := fun q => h58 (u8_is (n := 58) (by omega) q)
      rw [beq_eq_false_iff_ne.2 this]
      simp [Lib.hasPrefix, List.isPrefixOf]
      exact fun q => h58 q.symm
  · rw [stand_out g, hr, List.drop_of_length_le (by simp; omega)]
    simp [Lib.hasPrefix, List.isPrefixOf]
theorem sgO_colon {s : ByteArray} {p : Nat} (h : byt s p = 58) : sgO s p = if standB s ((p + 1 : Nat) : Int) 58 = true then 2 else 1 := by unfold sgO; rw [if_pos h]
theorem sgO_one {s : ByteArray} {p : Nat} (h : byt s p ≠ 58) (h2 : sgB (byt s p) = true) : sgO s p = 1 := by unfold sgO; rw [if_neg h, if_pos h2]
theorem sgO_no {s : ByteArray} {p : Nat} (h : byt s p ≠ 58) (h2 : sgB (byt s p) = false) : sgO s p = 0 := by unfold sgO; rw [if_neg h, h2]; rfl
theorem sgO_le {s : ByteArray} {p : Nat} (h : p < s.size) : p + sgO s p ≤ s.size := by
  unfold sgO
  split
  · split
    · rename_i g; have := (stand_iff.1 g).1; omega
    · omega
  · split <;> omega

theorem cc_is {s : ByteArray} {p : Nat} (hp : p + 1 < s.size) : (s.extract p (p + 2)).toList = [(58 : UInt8), 58] ↔ byt s p = 58 ∧ byt s (p + 1) = 58 := by
  obtain ⟨x, r, e, hx, hr⟩ := byt_head (s := s) (p := p) (by omega)
  obtain ⟨y, r2, e2, hy, -⟩ := byt_head hp
  rw [ByteArray.toList_eq, ByteArray.data_extract]
  simp only [Array.toList_extract, List.extract_eq_take_drop]
  rw [e, show p + 2 - p = 2 by omega, hr, e2, ← hx, ← hy]
  simp only [List.take_succ_cons, List.take_zero, List.cons.injEq, and_true]
  constructor
  · rintro ⟨rfl, rfl⟩; exact ⟨rfl, rfl⟩
  · rintro ⟨h1, h2⟩; exact ⟨u8_is (n := 58) (by omega) h1, u8_is (n := 58) (by omega) h2⟩
theorem cc_text {s : ByteArray} {p : Nat} (hp : p + 1 < s.size) (h : byt s p = 58 ∧ byt s (p + 1) = 58) : s.extract p (p + 2) = (⟨#[58, 58]⟩ : ByteArray) := by
  apply bytes_eq
  have := (cc_is hp).2 h
  rw [ByteArray.toList_eq] at this; exact this
theorem ext_none (s : ByteArray) (p : Nat) : s.extract p (p + 0) = (⟨#[]⟩ : ByteArray) := by
  apply bytes_eq; rw [ByteArray.data_extract]; simp

set_option maxHeartbeats 6400000 in
theorem rsign5_any (s : ByteArray) (hs : s.size ≤ 1000000) (p : Nat) (hp : p < s.size) (w : World) :
    Calls Try.prog 44 #[.string s, .int .i64 (p : Int)] w fun e w' => e = .returned (.string (s.extract p (p + sgO s p))) ∧ w' = w := by
  obtain ⟨c, hc⟩ : ∃ c : Int, (s[p].toNat : Int) = c := ⟨_, rfl⟩
  have hbc : byt s p = c := by rw [byt_get hp, hc]
  have hx0 := ext_none s p
  by_cases h58 : c = 58
  · subst h58
    have HE := Lib.hid (sgO_colon hbc)
    by_cases g : (p : Int) + 1 < s.size
    · have g1 : p + 1 < s.size := by omega
      have hcc := cc_is g1
      have hct := cc_text g1
      have g2 : (p : Int) + 2 ≤ s.size := by omega
      by_cases h2 : byt s (p + 1) = 58
      · have HT := Lib.hid (hct ⟨hbc, h2⟩)
        have HB := Lib.hid (show standB s ((p + 1 : Nat) : Int) 58 = true from stand_iff.2 ⟨g1, h2⟩)
        have e2 : ((s.extract p (p + 2)).toList == [(58 : UInt8), 58]) = true := by rw [beq_iff_eq]; exact hcc.2 ⟨hbc, h2⟩
        clear hcc hct hbc h2 hx0
        go_enter Try.func44, Try.ntmps44
        go_wp2
        go_ret
        exact ⟨ret_str (by rw [HE.out, HB.out]; exact HT.out.symm), rfl⟩
      · have HB := Lib.hid (show standB s ((p + 1 : Nat) : Int) 58 = false from by rw [stand_in g1]; exact beq_eq_false_iff_ne.2 h2)
        have e2 : ((s.extract p (p + 2)).toList == [(58 : UInt8), 58]) = false := by rw [beq_eq_false_iff_ne]; exact fun q => h2 (hcc.1 q).2
        clear hcc hct hbc h2 hx0
        go_enter Try.func44, Try.ntmps44
        go_wp2
        go_ret
        exact ⟨ret_str (by rw [HE.out, HB.out]; rfl), rfl⟩
    · have HB := Lib.hid (show standB s ((p + 1 : Nat) : Int) 58 = false from stand_out (by omega))
      have g2 : decide ((p : Int) + 1 < (s.size : Int)) = false := decide_eq_false g
      clear hbc hx0
      go_enter Try.func44, Try.ntmps44
      go_wp2
      go_ret
      exact ⟨ret_str (by rw [HE.out, HB.out]; rfl), rfl⟩
  have e58 : (c == 58) = false := beq_eq_false_iff_ne.2 h58
  have hsl : (p : Int) + 1 ≤ s.size := by omega
  have HX := Lib.hid hx0
  have HCC := Lib.hid (fun (g1 : p + 1 < s.size) => (show ((s.extract p (p + 2)).toList == [(58 : UInt8), 58]) = false from by rw [beq_eq_false_iff_ne]; exact fun q => h58 (by rw [← hbc]; exact ((cc_is g1).1 q).1)))
  clear hx0
  by_cases g : (p : Int) + 1 < s.size
  · have e2 := HCC.out (by omega)
    have g2 : (p : Int) + 2 ≤ s.size := by omega
    clear HCC
    by_cases h59 : c = 59
    · subst h59
      have HE := Lib.hid (sgO_one (s := s) (p := p) (by rw [hbc]; decide) (by rw [hbc]; decide))
      clear hbc
      go_enter Try.func44, Try.ntmps44
      go_wp2
      go_ret
      exact ⟨ret_str (by rw [HE.out]), rfl⟩
    have e59 : (c == 59) = false := beq_eq_false_iff_ne.2 h59
    by_cases h61 : c = 61
    · subst h61
      have HE := Lib.hid (sgO_one (s := s) (p := p) (by rw [hbc]; decide) (by rw [hbc]; decide))
      clear hbc
      go_enter Try.func44, Try.ntmps44
      go_wp2
      go_ret
      exact ⟨ret_str (by rw [HE.out]), rfl⟩
    have e61 : (c == 61) = false := beq_eq_false_iff_ne.2 h61
    by_cases h47 : c = 47
    · subst h47
      have HE := Lib.hid (sgO_one (s := s) (p := p) (by rw [hbc]; decide) (by rw [hbc]; decide))
      clear hbc
      go_enter Try.func44, Try.ntmps44
      go_wp2
      go_ret
      exact ⟨ret_str (by rw [HE.out]), rfl⟩
    have e47 : (c == 47) = false := beq_eq_false_iff_ne.2 h47
    by_cases h38 : c = 38
    · subst h38
      have HE := Lib.hid (sgO_one (s := s) (p := p) (by rw [hbc]; decide) (by rw [hbc]; decide))
      clear hbc
      go_enter Try.func44, Try.ntmps44
      go_wp2
      go_ret
      exact ⟨ret_str (by rw [HE.out]), rfl⟩
    have e38 : (c == 38) = false := beq_eq_false_iff_ne.2 h38
    by_cases h33 : c = 33
    · subst h33
      have HE := Lib.hid (sgO_one (s := s) (p := p) (by rw [hbc]; decide) (by rw [hbc]; decide))
      clear hbc
      go_enter Try.func44, Try.ntmps44
      go_wp2
      go_ret
      exact ⟨ret_str (by rw [HE.out]), rfl⟩
    have e33 : (c == 33) = false := beq_eq_false_iff_ne.2 h33
    by_cases h126 : c = 126
    · subst h126
      have HE := Lib.hid (sgO_one (s := s) (p := p) (by rw [hbc]; decide) (by rw [hbc]; decide))
      clear hbc
      go_enter Try.func44, Try.ntmps44
      go_wp2
      go_ret
      exact ⟨ret_str (by rw [HE.out]), rfl⟩
    have e126 : (c == 126) = false := beq_eq_false_iff_ne.2 h126
    by_cases h42 : c = 42
    · subst h42
      have HE := Lib.hid (sgO_one (s := s) (p := p) (by rw [hbc]; decide) (by rw [hbc]; decide))
      clear hbc
      go_enter Try.func44, Try.ntmps44
      go_wp2
      go_ret
      exact ⟨ret_str (by rw [HE.out]), rfl⟩
    have e42 : (c == 42) = false := beq_eq_false_iff_ne.2 h42
    by_cases h43 : c = 43
    · subst h43
      have HE := Lib.hid (sgO_one (s := s) (p := p) (by rw [hbc]; decide) (by rw [hbc]; decide))
      clear hbc
      go_enter Try.func44, Try.ntmps44
      go_wp2
      go_ret
      exact ⟨ret_str (by rw [HE.out]), rfl⟩
    have e43 : (c == 43) = false := beq_eq_false_iff_ne.2 h43
    by_cases h63 : c = 63
    · subst h63
      have HE := Lib.hid (sgO_one (s := s) (p := p) (by rw [hbc]; decide) (by rw [hbc]; decide))
      clear hbc
      go_enter Try.func44, Try.ntmps44
      go_wp2
      go_ret
      exact ⟨ret_str (by rw [HE.out]), rfl⟩
    have e63 : (c == 63) = false := beq_eq_false_iff_ne.2 h63
    by_cases h46 : c = 46
    · subst h46
      have HE := Lib.hid (sgO_one (s := s) (p := p) (by rw [hbc]; decide) (by rw [hbc]; decide))
      clear hbc
      go_enter Try.func44, Try.ntmps44
      go_wp2
      go_ret
      exact ⟨ret_str (by rw [HE.out]), rfl⟩
    have e46 : (c == 46) = false := beq_eq_false_iff_ne.2 h46
    by_cases h40 : c = 40
    · subst h40
      have HE := Lib.hid (sgO_one (s := s) (p := p) (by rw [hbc]; decide) (by rw [hbc]; decide))
      clear hbc
      go_enter Try.func44, Try.ntmps44
      go_wp2
      go_ret
      exact ⟨ret_str (by rw [HE.out]), rfl⟩
    have e40 : (c == 40) = false := beq_eq_false_iff_ne.2 h40
    by_cases h41 : c = 41
    · subst h41
      have HE := Lib.hid (sgO_one (s := s) (p := p) (by rw [hbc]; decide) (by rw [hbc]; decide))
      clear hbc
      go_enter Try.func44, Try.ntmps44
      go_wp2
      go_ret
      exact ⟨ret_str (by rw [HE.out]), rfl⟩
    have e41 : (c == 41) = false := beq_eq_false_iff_ne.2 h41
    have HE := Lib.hid (sgO_no (s := s) (p := p) (by rw [hbc]; exact h58) (by rw [hbc]; unfold sgB; rw [e59, e61, e47, e38, e33, e126, e42, e43, e63, e46, e40, e41]; rfl))
    clear hbc
    go_enter Try.func44, Try.ntmps44
    go_wp2
    go_ret
    exact ⟨ret_str (by rw [HE.out]; exact HX.out.symm), rfl⟩
  · have g2 : decide ((p : Int) + 1 < (s.size : Int)) = false := decide_eq_false g
    clear HCC
    by_cases h59 : c = 59
    · subst h59
      have HE := Lib.hid (sgO_one (s := s) (p := p) (by rw [hbc]; decide) (by rw [hbc]; decide))
      clear hbc
      go_enter Try.func44, Try.ntmps44
      go_wp2
      go_ret
      exact ⟨ret_str (by rw [HE.out]), rfl⟩
    have e59 : (c == 59) = false := beq_eq_false_iff_ne.2 h59
    by_cases h61 : c = 61
    · subst h61
      have HE := Lib.hid (sgO_one (s := s) (p := p) (by rw [hbc]; decide) (by rw [hbc]; decide))
      clear hbc
      go_enter Try.func44, Try.ntmps44
      go_wp2
      go_ret
      exact ⟨ret_str (by rw [HE.out]), rfl⟩
    have e61 : (c == 61) = false := beq_eq_false_iff_ne.2 h61
    by_cases h47 : c = 47
    · subst h47
      have HE := Lib.hid (sgO_one (s := s) (p := p) (by rw [hbc]; decide) (by rw [hbc]; decide))
      clear hbc
      go_enter Try.func44, Try.ntmps44
      go_wp2
      go_ret
      exact ⟨ret_str (by rw [HE.out]), rfl⟩
    have e47 : (c == 47) = false := beq_eq_false_iff_ne.2 h47
    by_cases h38 : c = 38
    · subst h38
      have HE := Lib.hid (sgO_one (s := s) (p := p) (by rw [hbc]; decide) (by rw [hbc]; decide))
      clear hbc
      go_enter Try.func44, Try.ntmps44
      go_wp2
      go_ret
      exact ⟨ret_str (by rw [HE.out]), rfl⟩
    have e38 : (c == 38) = false := beq_eq_false_iff_ne.2 h38
    by_cases h33 : c = 33
    · subst h33
      have HE := Lib.hid (sgO_one (s := s) (p := p) (by rw [hbc]; decide) (by rw [hbc]; decide))
      clear hbc
      go_enter Try.func44, Try.ntmps44
      go_wp2
      go_ret
      exact ⟨ret_str (by rw [HE.out]), rfl⟩
    have e33 : (c == 33) = false := beq_eq_false_iff_ne.2 h33
    by_cases h126 : c = 126
    · subst h126
      have HE := Lib.hid (sgO_one (s := s) (p := p) (by rw [hbc]; decide) (by rw [hbc]; decide))
      clear hbc
      go_enter Try.func44, Try.ntmps44
      go_wp2
      go_ret
      exact ⟨ret_str (by rw [HE.out]), rfl⟩
    have e126 : (c == 126) = false := beq_eq_false_iff_ne.2 h126
    by_cases h42 : c = 42
    · subst h42
      have HE := Lib.hid (sgO_one (s := s) (p := p) (by rw [hbc]; decide) (by rw [hbc]; decide))
      clear hbc
      go_enter Try.func44, Try.ntmps44
      go_wp2
      go_ret
      exact ⟨ret_str (by rw [HE.out]), rfl⟩
    have e42 : (c == 42) = false := beq_eq_false_iff_ne.2 h42
    by_cases h43 : c = 43
    · subst h43
      have HE := Lib.hid (sgO_one (s := s) (p := p) (by rw [hbc]; decide) (by rw [hbc]; decide))
      clear hbc
      go_enter Try.func44, Try.ntmps44
      go_wp2
      go_ret
      exact ⟨ret_str (by rw [HE.out]), rfl⟩
    have e43 : (c == 43) = false := beq_eq_false_iff_ne.2 h43
    by_cases h63 : c = 63
    · subst h63
      have HE := Lib.hid (sgO_one (s := s) (p := p) (by rw [hbc]; decide) (by rw [hbc]; decide))
      clear hbc
      go_enter Try.func44, Try.ntmps44
      go_wp2
      go_ret
      exact ⟨ret_str (by rw [HE.out]), rfl⟩
    have e63 : (c == 63) = false := beq_eq_false_iff_ne.2 h63
    by_cases h46 : c = 46
    · subst h46
      have HE := Lib.hid (sgO_one (s := s) (p := p) (by rw [hbc]; decide) (by rw [hbc]; decide))
      clear hbc
      go_enter Try.func44, Try.ntmps44
      go_wp2
      go_ret
      exact ⟨ret_str (by rw [HE.out]), rfl⟩
    have e46 : (c == 46) = false := beq_eq_false_iff_ne.2 h46
    by_cases h40 : c = 40
    · subst h40
      have HE := Lib.hid (sgO_one (s := s) (p := p) (by rw [hbc]; decide) (by rw [hbc]; decide))
      clear hbc
      go_enter Try.func44, Try.ntmps44
      go_wp2
      go_ret
      exact ⟨ret_str (by rw [HE.out]), rfl⟩
    have e40 : (c == 40) = false := beq_eq_false_iff_ne.2 h40
    by_cases h41 : c = 41
    · subst h41
      have HE := Lib.hid (sgO_one (s := s) (p := p) (by rw [hbc]; decide) (by rw [hbc]; decide))
      clear hbc
      go_enter Try.func44, Try.ntmps44
      go_wp2
      go_ret
      exact ⟨ret_str (by rw [HE.out]), rfl⟩
    have e41 : (c == 41) = false := beq_eq_false_iff_ne.2 h41
    have HE := Lib.hid (sgO_no (s := s) (p := p) (by rw [hbc]; exact h58) (by rw [hbc]; unfold sgB; rw [e59, e61, e47, e38, e33, e126, e42, e43, e63, e46, e40, e41]; rfl))
    clear hbc
    go_enter Try.func44, Try.ntmps44
    go_wp2
    go_ret
    exact ⟨ret_str (by rw [HE.out]; exact HX.out.symm), rfl⟩
end Go.Proofs.Ytihcmneidbjmlaa
