/- One byte or what is escaped: the walk of the program's read. -/
import Derived.Test.YtinkgidncdjapabQuoteF
namespace Go.Proofs.Ytinkgidncdjapab
set_option linter.unusedVariables false
open Go.RowKit

def readO (s : ByteArray) (k : Nat) (sp : ByteArray) : Option (ByteArray × Nat) :=
  if k < s.size then (if plainB sp (byt s k) = true then some (strOfNums [byt s k], k + 1) else if byt s k = 92 then escO s (k + 1) sp else none) else none
theorem readO_at {s : ByteArray} {k : Nat} {sp : ByteArray} {c : Int} (hk : k < s.size) (hc : byt s k = c) : readO s k sp =
    if plainB sp c = true then some (strOfNums [c], k + 1) else if c = 92 then escO s (k + 1) sp else none := by
  unfold readO; rw [if_pos hk, hc]
theorem escO_out {s : ByteArray} {k : Nat} {sp : ByteArray} (h : ¬ k < s.size) : escO s k sp = none := by unfold escO; rw [if_neg h]
theorem readO_out {s : ByteArray} {k : Nat} {sp : ByteArray} (h : ¬ k < s.size) : readO s k sp = none := by unfold readO; rw [if_neg h]

set_option maxHeartbeats 1600000 in
theorem read_any (s : ByteArray) (hs : s.size ≤ 1000000) (k : Nat) (hk2 : k ≤ 2000000) (sp : ByteArray) (w : World) :
    Calls Try.prog 31 #[.string s, .int .i64 (k : Int), .string sp] w fun e w' => Ends (readO s k sp) e ∧ Below w.heap.size w w' := by
  by_cases hk : k < s.size
  · obtain ⟨c, hc⟩ : ∃ c : Int, (s[k].toNat : Int) = c := ⟨_, rfl⟩
    have hbc : byt s k = c := by rw [byt_get hk, hc]
    have HF := Lib.hid (readO_at (sp := sp) hk hbc)
    obtain ⟨hc0, hc1⟩ : 0 ≤ c ∧ c ≤ 255 := by rw [← hbc]; exact byt_lt s k
    have HX1 := Lib.hid (one_byte hk)
    rw [hbc] at HX1
    obtain ⟨o, ho⟩ : ∃ o, readO s k sp = o := ⟨_, rfl⟩
    rw [ho] at HF ⊢
    clear ho hbc
    have hsl : (k : Int) + 1 ≤ s.size := by omega
    have HP := Lib.hid (fun W => plain_any sp c W)
    obtain ⟨bp, hbp⟩ : ∃ bp, plainB sp c = bp := ⟨_, rfl⟩
    rw [hbp] at HP HF
    clear hbp
    cases bp
    · by_cases h1 : c = 92
      · subst h1
        by_cases h2 : k + 1 < s.size
        · have HE := Lib.hid (fun W => escaped_any s hs (k + 1) h2 sp W)
          rw [show ((k + 1 : Nat) : Int) = (k : Int) + 1 by omega, show escO s (k + 1) sp = o by rw [HF.out]; simp] at HE
          have h3 : (k : Int) + 1 < s.size := by omega
          clear HF HX1
          go_enter Try.func31, Try.ntmps31
          go_wp2_with fail
          refine (HP.out _).mono ?_
          rintro e w1 ⟨rfl, rfl⟩
          go_wp2_with fail
          refine (HE.out _).mono ?_
          rintro e w1 ⟨⟨t, n, b, rfl, hr⟩, hb1⟩
          go_wp2
          go_ret3
          exact ⟨⟨t, n, b, rfl, hr⟩, hb1⟩
        · have HO := Lib.hid (show o = none by rw [HF.out, escO_out h2]; simp)
          clear HF HX1
          go_enter Try.func31, Try.ntmps31
          go_wp2_with fail
          refine (HP.out _).mono ?_
          rintro e w1 ⟨rfl, rfl⟩
          go_wp2
          go_ret3
          exact ⟨ends_no HO.out _ _, Below.refl _ _⟩
      · have e1 : (c == 92) = false := beq_eq_false_iff_ne.2 h1
        have HO := Lib.hid (show o = none by rw [HF.out, if_neg h1]; simp)
        clear HF HX1
        go_enter Try.func31, Try.ntmps31
        go_wp2_with fail
        refine (HP.out _).mono ?_
        rintro e w1 ⟨rfl, rfl⟩
        go_wp2
        go_ret3
        exact ⟨ends_no HO.out _ _, Below.refl _ _⟩
    · have HO := Lib.hid (show o = some (strOfNums [c], k + 1) by rw [HF.out]; simp)
      clear HF
      go_enter Try.func31, Try.ntmps31
      go_wp2_with fail
      refine (HP.out _).mono ?_
      rintro e w1 ⟨rfl, rfl⟩
      go_wp2
      go_ret3
      exact ⟨ends_yes HO.out HX1.out (by omega), Below.refl _ _⟩
  · have HO := Lib.hid (readO_out (sp := sp) hk)
    go_enter Try.func31, Try.ntmps31
    go_wp2
    go_ret3
    exact ⟨ends_no HO.out _ _, Below.refl _ _⟩
end Go.Proofs.Ytinkgidncdjapab
