/- The law SyntaxNames, walked. -/
import Derived.Test.YtinkgidncdjapacAwk06
namespace Go.Proofs.Ytinkgidncdjapac
set_option linter.unusedVariables false
open Go.RowKit Go.Sort

theorem ok_colon {k : Nat} {c : Int} (h : okAt k c = true) : c ≠ 58 := by
  intro e; subst e
  revert h
  unfold okAt
  rw [show isLet 58 = false by decide, show isDig 58 = false by decide]
  simp
theorem allAt_get {s : ByteArray} : ∀ {n k : Nat}, allAt s n = true → k < n → okAt k (byt s k) = true
  | 0, k, _, h => by omega
  | n + 1, k, ha, h => by
    unfold allAt at ha
    rw [Bool.and_eq_true] at ha
    by_cases e : k = n
    · subst e; exact ha.2
    · exact allAt_get ha.1 (by omega)
theorem word_colon {a : ByteArray} (h : wordB a = true) : ∀ x ∈ a.data.toList, x ≠ (58 : UInt8) := by
  intro x hx e
  subst e
  obtain ⟨k, hk, hx⟩ := List.getElem_of_mem hx
  have hk' : k < a.size := by simpa using hk
  unfold wordB at h
  rw [Bool.and_eq_true, Bool.and_eq_true] at h
  have h1 := ok_colon (allAt_get h.1.2 hk')
  apply h1
  unfold byt
  rw [List.getD_eq_getElem?_getD, List.getElem?_eq_getElem hk, hx]; rfl
theorem noOcc_pre {A C : List UInt8} (h : ∀ x ∈ A, x ≠ (58 : UInt8)) : Lib.NoOcc (A ++ C) [58, 58] A.length := fun j hj => by
  have hd : (A ++ C).drop j = A[j] :: (A.drop (j + 1) ++ C) := by
    rw [List.drop_append_of_le_length (by omega), List.drop_eq_getElem_cons hj]; rfl
  unfold Lib.occAt
  rw [hd]
  have hne := h A[j] (List.getElem_mem hj)
  have : ((58 : UInt8) == A[j]) = false := by rw [beq_eq_false_iff_ne]; exact fun e => hne e.symm
  simp [List.isPrefixOf, this]
theorem cut_join {c a b : ByteArray} (hc : c.data.toList = a.data.toList ++ ([58, 58] ++ b.data.toList)) (h : wordB a = true) : cutS c = (a.data.toList, b.data.toList, true) := by
  have hn := noOcc_pre (C := [58, 58] ++ b.data.toList) (word_colon h)
  have ho : Lib.occAt (a.data.toList ++ ([58, 58] ++ b.data.toList)) [58, 58] a.data.toList.length = true := by
    unfold Lib.occAt; rw [List.drop_left]; simp [List.isPrefixOf]
  have hi := Lib.index_hit hn (by simp) ho
  rw [← hc] at hi
  rw [cutS_yes hi, hc]
  rw [List.take_left, ← List.append_assoc, show a.data.toList.length + 2 = (a.data.toList ++ [58, 58]).length by simp, List.drop_left]
theorem ofL_self (a : ByteArray) : ofL a.data.toList = a := by
  apply ByteArray.ext
  show a.data.toList.toArray = a.data
  simp
theorem split_join {c a b : ByteArray} (hc : c.data.toList = a.data.toList ++ ([58, 58] ++ b.data.toList)) (h : wordB a = true) : splitM c = a ∧ splitR c = b ∧ splitB c = wordB b := by
  unfold splitM splitR splitB
  rw [cut_join hc h]
  simp only [ofL_self, if_true, h, Bool.true_and]
  exact ⟨trivial, trivial, trivial⟩
theorem split_lone {a : ByteArray} (h : wordB a = true) : splitM a = ⟨#[]⟩ ∧ splitR a = a ∧ splitB a = true := by
  have hn := noOcc_pre (C := []) (word_colon h)
  rw [List.append_nil] at hn
  have hi := Lib.index_past (s := a.data.toList) (sub := [58, 58]) (by simp) hn (by simp)
  unfold splitM splitR splitB
  rw [cutS_no hi]
  exact ⟨rfl, rfl, h⟩
theorem split_parts {a : ByteArray} (h : splitB a = true) : wordB (splitR a) = true ∧ (splitM a = ⟨#[]⟩ ∨ wordB (splitM a) = true) := by
  unfold splitM splitR
  unfold splitB at h
  by_cases e : (cutS a).2.2 = true
  · rw [if_pos e] at h
    rw [if_pos e, if_pos e]
    rw [Bool.and_eq_true] at h
    exact ⟨h.2, .inr h.1⟩
  · rw [if_neg e] at h
    rw [if_neg e, if_neg e]
    exact ⟨h, .inl rfl⟩
theorem splitM_size (a : ByteArray) : (splitM a).size ≤ a.size ∧ (splitR a).size ≤ a.size := by
  have hl1 : (cutS a).1.length ≤ a.size ∧ (cutS a).2.1.length ≤ a.size := by
    unfold cutS Lib.cut; split <;> simp <;> omega
  unfold splitM splitR
  split
  · exact ⟨by show (cutS a).1.toArray.size ≤ _; simpa using hl1.1, by show (cutS a).2.1.toArray.size ≤ _; simpa using hl1.2⟩
  · exact ⟨Nat.zero_le _, Nat.le_refl _⟩

set_option maxRecDepth 100000 in
set_option maxHeartbeats 6400000 in
theorem names_walk (a b : ByteArray) (w : World) (hm : Mx w) :
    Calls Try.prog 5 #[.string a, .string b] w fun e w' => e = .returned (.bool true) ∧ Below w.heap.size w w' := by
  have HM := Lib.hid hm
  clear hm
  by_cases h1 : (a.size : Int) ≤ 50
  · by_cases h2 : (b.size : Int) ≤ 50
    · obtain ⟨c, hcd⟩ : ∃ c, a ++ ⟨#[58, 58]⟩ ++ b = c := ⟨_, rfl⟩
      have hcl : c.data.toList = a.data.toList ++ ([58, 58] ++ b.data.toList) := by rw [← hcd]; simp [ByteArray.data_append]
      have hcs : c.size ≤ 1000000 := by
        have h58 : (⟨#[58, 58]⟩ : ByteArray).size = 2 := rfl
        rw [← hcd]; simp; omega
      have HC := Lib.hid hcs
      have HCL := Lib.hid hcl
      have HCD := Lib.hid hcd
      have SA := Lib.hid (show a.size ≤ 1000000 by omega)
      have SA2 := Lib.hid (show a.size ≤ maxLen by unfold maxLen; omega)
      have SB2 := Lib.hid (show b.size ≤ maxLen by unfold maxLen; omega)
      clear hcs hcl hcd
      obtain ⟨wa, hwa⟩ : ∃ wa, wordB a = wa := ⟨_, rfl⟩
      obtain ⟨wb, hwb⟩ : ∃ wb, wordB b = wb := ⟨_, rfl⟩
      have HWA := Lib.hid hwa
      have HWB := Lib.hid hwb
      clear hwa hwb
      cases wa
      · obtain ⟨is, his⟩ : ∃ is, splitB a = is := ⟨_, rfl⟩
        have HIS := Lib.hid his
        clear his
        go_enter Try.func5, Try.ntmps5
        go_wp2_with fail
        rw [HCD.out]
        refine (split_any c HC.out w HM.out).mono ?_
        rintro e w1 ⟨rfl, hb1⟩
        have HB1 := Lib.hid hb1
        clear hb1
        go_wp2_with fail
        refine (split_is a SA.out _ _ is rfl rfl HIS.out _ (HM.out.below HB1.out)).mono ?_
        rintro e w2 ⟨rfl, hb2⟩
        have HB2 := Lib.hid (keepb HB1.out hb2)
        clear hb2 HB1
        go_wp2_with fail
        refine (word_is a SA2.out false HWA.out _).mono ?_
        rintro e w9 ⟨rfl, rfl⟩
        go_wp2_with fail
        refine (awake_any _ (HM.out.below HB2.out)).mono ?_
        rintro e w3 ⟨rfl, hb3⟩
        have HB3 := Lib.hid (keepb HB2.out hb3)
        clear hb3 HB2
        go_wp2_with fail
        refine (word_is a SA2.out false HWA.out _).mono ?_
        rintro e w9 ⟨rfl, rfl⟩
        cases is
        · go_wp2
          go_ret
          exact ⟨rfl, HB3.out⟩
        · have hp := split_parts HIS.out
          have hsz := splitM_size a
          have SM := Lib.hid (show (splitM a).size ≤ maxLen by unfold maxLen; omega)
          have SR := Lib.hid (show (splitR a).size ≤ maxLen by unfold maxLen; omega)
          obtain ⟨n, hn⟩ : ∃ n, splitM a = n := ⟨_, rfl⟩
          obtain ⟨s, hs⟩ : ∃ s, splitR a = s := ⟨_, rfl⟩
          rw [hn] at hp SM ⊢
          rw [hs] at hp SR ⊢
          have H1 := Lib.hid hp.1
          have H2 := Lib.hid hp.2
          clear hp hsz hn hs
          go_wp2_with fail
          refine (word_is s SR.out true H1.out _).mono ?_
          rintro e w9 ⟨rfl, rfl⟩
          obtain ⟨be, hbe⟩ : ∃ be, n.toList.isEmpty = be := ⟨_, rfl⟩
          cases be
          · have H3 := Lib.hid (show wordB n = true from by
              rcases H2.out with h | h
              · subst h; exact absurd hbe (by decide +kernel)
              · exact h)
            go_wp2_with fail
            refine (word_is n SM.out true H3.out _).mono ?_
            rintro e w9 ⟨rfl, rfl⟩
            go_wp2
            go_ret
            exact ⟨rfl, HB3.out⟩
          · go_wp2
            go_ret
            exact ⟨rfl, HB3.out⟩
      · obtain ⟨j1, j2, j3⟩ := split_join HCL.out HWA.out
        obtain ⟨l1, l2, l3⟩ := split_lone HWA.out
        rw [HWB.out] at j3
        have J1 := Lib.hid j1
        have J2 := Lib.hid j2
        have J3 := Lib.hid j3
        have L1 := Lib.hid l1
        have L2 := Lib.hid l2
        have L3 := Lib.hid l3
        clear j1 j2 j3 l1 l2 l3
        go_enter Try.func5, Try.ntmps5
        go_wp2_with fail
        rw [HCD.out]
        refine (split_is c HC.out a b wb J1.out J2.out J3.out w HM.out).mono ?_
        rintro e w1 ⟨rfl, hb1⟩
        have HB1 := Lib.hid hb1
        clear hb1
        go_wp2_with fail
        refine (split_is a SA.out ⟨#[]⟩ a true L1.out L2.out L3.out _ (HM.out.below HB1.out)).mono ?_
        rintro e w2 ⟨rfl, hb2⟩
        have HB2 := Lib.hid (keepb HB1.out hb2)
        clear hb2 HB1
        go_wp2_with fail
        refine (word_is a SA2.out true HWA.out _).mono ?_
        rintro e w9 ⟨rfl, rfl⟩
        go_wp2_with fail
        refine (word_is b SB2.out wb HWB.out _).mono ?_
        rintro e w9 ⟨rfl, rfl⟩
        go_wp2_with fail
        refine (awake_any _ (HM.out.below HB2.out)).mono ?_
        rintro e w3 ⟨rfl, hb3⟩
        have HB3 := Lib.hid (keepb HB2.out hb3)
        clear hb3 HB2
        cases wb
        all_goals
          go_wp2_with fail
          refine (word_is a SA2.out true HWA.out _).mono ?_
          rintro e w9 ⟨rfl, rfl⟩
          go_wp2_with fail
          refine (word_is a SA2.out true HWA.out _).mono ?_
          rintro e w9 ⟨rfl, rfl⟩
          go_wp2
          go_ret
          exact ⟨rfl, HB3.out⟩
    · go_enter Try.func5, Try.ntmps5
      go_wp2_with fail
      refine (awake_any w HM.out).mono ?_
      rintro e w1 ⟨rfl, hb⟩
      go_wp2_with fail
      go_ret
      exact ⟨rfl, hb⟩
  · go_enter Try.func5, Try.ntmps5
    go_wp2_with fail
    refine (awake_any w HM.out).mono ?_
    rintro e w1 ⟨rfl, hb⟩
    go_wp2_with fail
    go_ret
    exact ⟨rfl, hb⟩
end Go.Proofs.Ytinkgidncdjapac
