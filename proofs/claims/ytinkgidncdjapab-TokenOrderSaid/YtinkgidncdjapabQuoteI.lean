/- One byte or what is escaped: the walk of the reference's one. -/
import Derived.Test.YtinkgidncdjapabQuoteH
namespace Go.Proofs.Ytinkgidncdjapab
set_option linter.unusedVariables false
open Go.RowKit

theorem plain_92 (sp : ByteArray) : plainB sp 92 = false := by unfold plainB; simp

set_option maxHeartbeats 1600000 in
theorem one_any (s : ByteArray) (hs : s.size ≤ 1000000) (k : Nat) (hk2 : k ≤ 2000000) (sp : ByteArray) (hsz : sp.size ≤ 1000000) (hsp : ∀ c : Int, 0 ≤ c → c ≤ 255 → isSp sp c = true → 32 ≤ c ∧ c ≤ 126) (w : World) :
    Calls Try.prog 26 #[.string s, .int .i64 (k : Int), .string sp] w fun e w' => Ends (readO s k sp) e ∧ Below w.heap.size w w' := by
  by_cases hk : k < s.size
  · obtain ⟨c, hc⟩ : ∃ c : Int, (s[k].toNat : Int) = c := ⟨_, rfl⟩
    have hbc : byt s k = c := by rw [byt_get hk, hc]
    have HF := Lib.hid (readO_at (sp := sp) hk hbc)
    obtain ⟨hc0, hc1⟩ : 0 ≤ c ∧ c ≤ 255 := by rw [← hbc]; exact byt_lt s k
    have HX1 := Lib.hid (one_byte hk)
    rw [hbc] at HX1
    have HE := Lib.hid (fun W => escape_any s hs (k + 1) (by omega) sp hsz hsp W)
    rw [show ((k + 1 : Nat) : Int) = (k : Int) + 1 by omega] at HE
    have HP := Lib.hid (fun W => rplain_any sp hsz c hc0 hc1 W)
    obtain ⟨o, ho⟩ : ∃ o, readO s k sp = o := ⟨_, rfl⟩
    rw [ho] at HF ⊢
    clear ho hbc hsp
    have hsl : (k : Int) + 1 ≤ s.size := by omega
    by_cases h1 : c = 92
    · subst h1
      rw [show escO s (k + 1) sp = o by rw [HF.out, plain_92]; simp] at HE
      clear HF HX1 HP
      go_enter Try.func26, Try.ntmps26
      go_wp2_with fail
      refine (HE.out _).mono ?_
      rintro e w1 ⟨⟨t, n, b, rfl, hr⟩, hb1⟩
      go_wp2
      go_ret3
      exact ⟨⟨t, n, b, rfl, hr⟩, hb1⟩
    · have e1 : (c == 92) = false := beq_eq_false_iff_ne.2 h1
      obtain ⟨bp, hbp⟩ : ∃ bp, plainB sp c = bp := ⟨_, rfl⟩
      rw [hbp] at HP HF
      clear hbp HE
      cases bp
      · have HO := Lib.hid (show o = none by rw [HF.out, if_neg h1]; simp)
        clear HF HX1
        go_enter Try.func26, Try.ntmps26
        go_wp2_with fail
        refine (HP.out _).mono ?_
        rintro e w1 ⟨rfl, rfl⟩
        go_wp2
        go_ret3
        exact ⟨ends_no HO.out _ _, Below.refl _ _⟩
      · have HO := Lib.hid (show o = some (strOfNums [c], k + 1) by rw [HF.out]; simp)
        clear HF
        go_enter Try.func26, Try.ntmps26
        go_wp2_with fail
        refine (HP.out _).mono ?_
        rintro e w1 ⟨rfl, rfl⟩
        go_wp2
        go_ret3
        exact ⟨ends_yes HO.out HX1.out (by omega), Below.refl _ _⟩
  · have HO := Lib.hid (readO_out (sp := sp) hk)
    go_enter Try.func26, Try.ntmps26
    go_wp2
    go_ret3
    exact ⟨ends_no HO.out _ _, Below.refl _ _⟩
end Go.Proofs.Ytinkgidncdjapab
